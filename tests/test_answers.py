"""Promise [4]: answers made by hand, true and untrue ones, asked whether they are."""

import random
import unittest

from streakdays.answers import Broken, Empty, Longest, Whole
from streakdays.streaks import longest
from tests import plain
from tests.plain import RULES

DAILY = (1, (), 2, 0)


def shift(chance):
    return chance.choice([-61, -7, -2, -1, -1, 0, 0, 0, 1, 1, 2, 7, 61, 10 ** 20, -10 ** 20])


def put_off(chance, told):
    """Fields near to those of a true answer: some still true, most not."""
    first, last, bars = told.first, told.last, list(told.bars)
    for turn in range(chance.choice([0, 1, 1, 1, 2, 3])):
        what = chance.randrange(6)
        if what == 0:
            first += shift(chance)
        elif what == 1:
            last += shift(chance)
        elif what == 2 and bars:
            del bars[chance.randrange(len(bars))]
        elif what == 3 and bars:
            at = chance.randrange(len(bars))
            bars[at] = (bars[at][0] + shift(chance), bars[at][1] + shift(chance))
        elif what == 4:
            one = chance.randrange(-40, 100)
            bars.insert(chance.randrange(len(bars) + 1), (one, one + chance.randrange(8)))
        elif what == 5 and bars:
            chance.shuffle(bars)
    return first, last, bars


class LongestShowsTest(unittest.TestCase):
    def test_made_by_hand(self):
        kept = [0, 1, 2, 6, 7]
        for first, last, bars, true in [
            (0, 2, [(3, 3), (5, 5)], True), (0, 2, [(3, 3)], True), (0, 2, [(4, 5)], True), (0, 2, [(2, 3)], True),
            (0, 2, [(5, 6)], True), (0, 2, [(3, 4), (5, 6)], True), (0, 2, [(2, 3), (5, 6)], True),
            (0, 2, [(1, 3)], False), (0, 2, [], False), (0, 2, [(2, 2)], False),
            (0, 2, [(5, 4)], False), (0, 2, [(4, 4), (4, 4)], False), (0, 2, [(5, 5), (3, 3)], False),
            (0, 2, [(3, 4), (3, 3)], False), (0, 2, [(3, 3), (3, 4)], False), (0, 2, [(3, 4), (4, 4)], False),
            (0, 2, [(3, 5)], False), (0, 2, [(0, 7)], False),
            (0, 1, [(3, 3)], False), (6, 7, [(3, 3)], False), (0, 7, [(3, 3)], False), (2, 0, [(3, 3)], False),
            (0, 3, [(3, 3)], False), (-1, 2, [(3, 3)], False),
            # Bars made by hand may stand ahead of the first and behind the last kept day.
            (0, 2, [(-1, 0), (3, 3)], True), (0, 2, [(-9, -9), (-1, -1), (3, 3), (8, 8), (900, 901)], True),
            (0, 2, [(3, 3), (7, 8)], True), (0, 2, [(-9, -9)], False), (0, 2, [(8, 8)], False),
            (0, 2, [(-10 ** 30, -10 ** 30), (3, 3), (10 ** 30, 10 ** 30 + 1)], True),
            (0, 2, [(-10 ** 30, 10 ** 30)], False), (10 ** 30, 10 ** 40, [], False),
            (-10 ** 40, 10 ** 40, [(3, 3)], False),
        ]:
            self.assertIs(Longest(first, last, bars).shows(DAILY, kept), true, (first, last, bars))
            self.assertIs(plain.is_longest(DAILY, kept, first, last, bars), true, (first, last, bars))

    def test_rooms_at_each_place(self):
        # Three rooms; the middle one is the longest streak.
        kept = [0, 1, 10, 11, 12, 20, 21]
        self.assertIs(Longest(10, 12, [(5, 5), (15, 15)]).shows(DAILY, kept), True)
        self.assertIs(Longest(0, 1, [(5, 5), (15, 15)]).shows(DAILY, kept), False)
        self.assertIs(Longest(10, 12, [(5, 5)]).shows(DAILY, kept), False)
        self.assertIs(Longest(10, 12, [(15, 15)]).shows(DAILY, kept), False)
        self.assertIs(Longest(20, 21, [(15, 15)]).shows(DAILY, kept), False)
        # A room has neither the first day of the bar ahead of it nor the last day of the one behind it.
        for bars in [[(1, 2), (13, 14)], [(9, 10), (12, 13)], [(1, 2), (19, 20)], [(9, 10), (19, 20)]]:
            self.assertIs(Longest(10, 12, bars).shows(DAILY, kept), True)

    def test_rest_days_of_any_number(self):
        # Days -2 and -1 are days 5 and 6 of their week.
        for one, other, true in [(-2, -1, False), (-3, -1, False), (-4, -1, True), (-9, -3, True), (61, 62, False),
                                 (63, 64, True), (7 * 10 ** 20 + 5, 7 * 10 ** 20 + 6, False),
                                 (7 * 10 ** 20 + 3, 7 * 10 ** 20 + 6, True), (-7 * 10 ** 20, 1 - 7 * 10 ** 20, True)]:
            told = Longest(60, 60, [(one, other)])
            self.assertIs(told.shows(RULES, [60]), true, (one, other))

    def test_empty_has_no_longest(self):
        self.assertIs(Longest(0, 0, []).shows(RULES, []), False)
        self.assertIs(Longest(0, 0, [(0, 4)]).shows(RULES, []), False)

    def test_near_true_ones_against_plain_trying(self):
        chance = random.Random(40)
        seen = {True: 0, False: 0}
        for rules, kept in plain.cases(41, 250):
            for turn in range(8 if kept else 0):
                first, last, bars = put_off(chance, longest(rules, kept))
                true = plain.is_longest(rules, kept, first, last, bars)
                self.assertIs(Longest(first, last, bars).shows(rules, kept), true, (rules, kept, first, last, bars))
                seen[true] += 1
        self.assertGreater(min(seen.values()), 300)

    def test_very_many_bars(self):
        kept = list(range(0, 61, 2))
        bars = [(day, day) for day in range(-20001, 20001, 2)]
        self.assertIs(Longest(0, 0, bars).shows(DAILY, kept), True)
        self.assertIs(Longest(0, 0, bars + [(10 ** 9, 10 ** 9 + 2)]).shows(DAILY, kept), False)
        self.assertIs(Longest(0, 0, bars + bars[-1:]).shows(DAILY, kept), False)
        self.assertIs(Longest(0, 2, bars).shows(DAILY, kept), False)

    def test_fields_are_copied_and_asked_as_they_stand(self):
        kept, bars = [0, 1, 2, 6, 7], [(3, 3)]
        told = Longest(0, 2, bars)
        self.assertEqual((told.first, told.last, told.bars), (0, 2, [(3, 3)]))
        bars.clear()
        self.assertIs(told.shows(DAILY, kept), True)
        told.bars.append((3, 3))
        self.assertIs(told.shows(DAILY, kept), False)
        told.bars = [(5, 5)]
        self.assertIs(told.shows(DAILY, kept), True)
        told.bars.clear()
        self.assertIs(told.shows(DAILY, kept), False)
        told.bars.append((4, 4))
        told.first = 1
        self.assertIs(told.shows(DAILY, kept), False)
        told.first, told.last = 0, 1
        self.assertIs(told.shows(DAILY, kept), False)
        told.last = 2
        self.assertIs(told.shows(DAILY, kept), True)
        self.assertEqual((kept, told.bars), ([0, 1, 2, 6, 7], [(4, 4)]))


class EmptyShowsTest(unittest.TestCase):
    def test_only_where_none_is_kept(self):
        self.assertIs(Empty().shows(RULES, []), True)
        for kept in ([0], [60], list(range(61))):
            self.assertIs(Empty().shows(RULES, kept), False)


class StretchShowsTest(unittest.TestCase):
    def test_made_by_hand(self):
        kept = [0, 1, 2, 6, 7]
        for one, other, first, last, true in [
            (3, 3, 0, 7, True), (2, 3, 0, 7, True), (3, 4, 2, 6, True), (3, 5, 0, 7, False), (2, 2, 0, 7, False),
            (1, 2, 0, 7, False), (4, 3, 0, 7, False), (3, 3, 0, 2, False), (3, 3, 6, 7, False), (2, 3, 2, 6, True),
            (-1, -1, 0, 7, False), (-1, 0, 0, 7, False), (8, 8, 0, 7, False), (7, 8, 0, 7, False),
            (-10 ** 30, 10 ** 30, 0, 7, False), (10 ** 30, -10 ** 30, 0, 7, False), (10 ** 30, 10 ** 30, 0, 7, False),
        ]:
            self.assertIs(Broken(one, other).shows(DAILY, kept, first, last), true, (one, other, first, last))
        for first, last, true in [(0, 2, True), (1, 1, True), (6, 7, True), (0, 7, False), (2, 6, False)]:
            self.assertIs(Whole().shows(DAILY, kept, first, last), true)

    def test_against_plain_trying(self):
        chance = random.Random(42)
        seen = {True: 0, False: 0}
        for rules, kept in plain.cases(43, 300):
            for turn in range(30 if kept else 0):
                first, last = sorted([chance.choice(kept), chance.choice(kept)])
                whole = plain.is_streak(rules, kept, first, last)
                self.assertIs(Whole().shows(rules, kept, first, last), whole)
                one = chance.randrange(first - 1, last + 1)
                far = chance.choice([-1, 0, rules[2] // 2, rules[2] - 1])
                other = min(last + chance.choice([0, 0, 0, 1]), one + far)
                true = first <= one and other <= last and plain.is_bad(rules, kept, one, other)
                self.assertIs(Broken(one, other).shows(rules, kept, first, last), true)
                seen[true] += 1
        self.assertGreater(min(seen.values()), 300)

    def test_fields_as_they_stand(self):
        told = Broken(3, 3)
        self.assertEqual((told.one, told.other), (3, 3))
        self.assertIs(told.shows(DAILY, [0, 7], 0, 7), True)
        told.other = 9
        self.assertIs(told.shows(DAILY, [0, 7], 0, 7), False)
        told.one, told.other = 6, 6
        self.assertIs(told.shows(DAILY, [0, 7], 0, 7), True)
