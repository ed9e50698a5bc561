"""Promises [3] and [4]: rules, kept days, streaks, bars and stretches."""

import copy
import itertools
import random
import unittest

from streakdays.answers import Answer, Broken, Empty, Longest, Whole
from streakdays.errors import BadDay, BadDays, BadRules, BadStretch
from streakdays.streaks import alive, judged, late_day, longest, until
from tests import plain
from tests.plain import NO_LISTS, NO_NUMBERS, NO_TUPLES, RULES, beyond


class LongestTest(unittest.TestCase):
    def hold(self, rules, kept):
        told = longest(rules, kept)
        if not kept:
            self.assertIs(type(told), Empty)
            self.assertIs(told.shows(rules, kept), True)
            return
        case = (rules, kept, vars(told))
        self.assertIs(type(told), Longest)
        self.assertIs(type(told.bars), list)
        self.assertTrue(all(type(bar) is tuple and len(bar) == 2 for bar in told.bars))
        self.assertTrue(plain.is_longest(rules, kept, told.first, told.last, told.bars), case)
        self.assertTrue(all(kept[0] <= one and other <= kept[-1] for one, other in told.bars), case)
        self.assertIs(told.shows(rules, kept), True, case)

    def test_plain_ones(self):
        # Days 5 and 6 of a week are of rest, and one day in any seven may be missed.
        told = longest(RULES, [0, 1, 2, 3, 4, 7, 9, 10, 11, 17, 18])
        self.assertEqual((told.first, told.last), (0, 11))
        told = longest((1, (), 3, 0), [0, 1, 3, 4, 5, 8])
        self.assertEqual((told.first, told.last), (3, 5))
        told = longest((1, (), 3, 1), [0, 1, 3, 4, 5, 8])
        self.assertEqual((told.first, told.last), (0, 5))
        self.assertEqual(told.bars, [(6, 7)])

    def test_no_bars_where_all_is_one_streak(self):
        told = longest((2, (1,), 30, 0), list(range(0, 61, 2)))
        self.assertEqual((told.first, told.last, told.bars), (0, 60, []))

    def test_more_let_than_the_width_is_never_bad(self):
        for let in range(10):
            told = longest((1, (), 5, let), [0, 60])
            self.assertEqual((told.first, told.last) == (0, 60), let >= 5)
            self.hold((1, (), 5, let), [0, 60])

    def test_against_plain_trying(self):
        for rules, kept in plain.cases(4, 500):
            self.hold(rules, kept)

    def test_all_small_ones(self):
        days = (0, 1, 2, 3, 5, 6, 7, 9)
        chosen = [list(kept) for many in range(9) for kept in itertools.combinations(days, many)]
        for rules in [(1, (), 1, 0), (1, (), 2, 1), (1, (), 3, 1), (3, (1,), 2, 0), (4, (0, 3), 4, 1), (5, (2,), 5, 2)]:
            for kept in chosen:
                self.hold(rules, kept)

    def test_nothing_is_shared(self):
        rules, kept = (1, (), 3, 0), [0, 5, 9]
        told = longest(rules, kept)
        told.bars.clear()
        kept.append(10)
        self.assertTrue(longest(rules, [0, 5, 9]).bars)
        self.assertIsNot(longest(rules, kept).bars, longest(rules, kept).bars)


class JudgedTest(unittest.TestCase):
    def test_against_plain_trying(self):
        seen = {Whole: 0, Broken: 0}
        for rules, kept in plain.cases(44, 250):
            for first, last in itertools.combinations_with_replacement(kept[::3] + kept[-1:], 2):
                if first > last:
                    continue
                told = judged(rules, kept, first, last)
                seen[type(told)] += 1
                case = (rules, kept, first, last, vars(told))
                self.assertEqual(type(told) is Whole, plain.is_streak(rules, kept, first, last), case)
                if type(told) is Broken:
                    self.assertTrue(first <= told.one and told.other <= last, case)
                    self.assertTrue(plain.is_bad(rules, kept, told.one, told.other), case)
                self.assertIs(told.shows(rules, kept, first, last), True, case)
        self.assertGreater(min(seen.values()), 500)

    def test_each_day_alone_is_whole(self):
        for day in (0, 30, 60):
            self.assertIs(type(judged((1, (), 1, 0), [0, 30, 60], day, day)), Whole)

    def test_rest_days_are_not_missed(self):
        self.assertIs(type(judged((7, (5, 6), 30, 0), [4, 7], 4, 7)), Whole)
        self.assertIs(type(judged((7, (5,), 30, 0), [4, 7], 4, 7)), Broken)
        self.assertIs(type(judged((7, (5,), 30, 1), [4, 7], 4, 7)), Whole)

    def test_the_width_counts_days_of_rest_too(self):
        # Days 1 and 4 are missed, 2 and 3 are of rest: four days on end.
        for width in range(1, 8):
            told = judged((14, (2, 3), width, 1), [0, 5], 0, 5)
            self.assertEqual(type(told), Broken if width >= 4 else Whole)


def wrong_rules():
    """Things that are no rules: each member of good ones put wrong, and other lengths and kinds."""
    yield from NO_TUPLES
    yield from [(), RULES[:3], RULES + (0,), list(RULES), (RULES,), (7, [5, 6], 7, 1)]
    limits = {0: (1, 14), 2: (1, 30), 3: (0, 9)}
    for at in limits:
        for thing in NO_NUMBERS + beyond(*limits[at]):
            yield RULES[:at] + (thing,) + RULES[at + 1:]
            yield (1, (), 1, 0)[:at] + (thing,) + (1, (), 1, 0)[at + 1:]
    for thing in NO_TUPLES + [(7,), (-1,), (6, 5), (5, 5), (0, 0), tuple(range(7)), (0, 2, 1), (10 ** 30,)]:
        yield (7, thing, 7, 1)
    for thing in NO_NUMBERS + [-1, 7]:
        for at in range(3):
            yield (7, (2, 4)[:at] + (thing,) + (2, 4)[at:], 7, 1)
    yield from [(1, (0,), 1, 0), (2, (0, 1), 1, 0), (14, tuple(range(14)), 1, 0), (14, (14,), 1, 0)]


def wrong_days():
    """Things that are no kept days."""
    yield from NO_LISTS
    yield from [[-1], [61], [0, 0], [1, 0], [3, 5, 4], [0, 60, 61], list(range(62)), [[0]], [10 ** 30], [-10 ** 30]]
    yield from [(0, 1), {0: True}, {0}, range(3), "012"]
    for thing in NO_NUMBERS + beyond(0, 60) + [4, 20]:
        for at in range(3):
            yield [4, 20][:at] + [thing] + [4, 20][at:]


class RefusalsTest(unittest.TestCase):
    def doors(self):
        """Each door of rules and kept days, asked so that the rest is right if these are."""
        return [
            longest, late_day,
            lambda rules, kept: judged(rules, kept, 4, 20),
            lambda rules, kept: alive(rules, kept, 4), lambda rules, kept: until(rules, kept, 4),
        ]

    def worse_doors(self):
        """The same doors, with what comes last wrong, too."""
        return [
            lambda rules, kept: judged(rules, kept, None, None),
            lambda rules, kept: alive(rules, kept, None), lambda rules, kept: until(rules, kept, 61),
        ]

    def test_wrong_rules(self):
        for door in self.doors() + self.worse_doors():
            for rules in wrong_rules():
                for kept in ([4, 20], None, [1, 0]):
                    with self.assertRaises(BadRules, msg=repr(rules)):
                        door(rules, kept)

    def test_wrong_days(self):
        for door in self.doors() + self.worse_doors():
            for kept in wrong_days():
                with self.assertRaises(BadDays, msg=repr(kept)):
                    door(RULES, kept)

    def test_rules_and_days_at_their_edges(self):
        for door in self.doors():
            for rules in [(1, (), 1, 0), (14, tuple(range(13)), 30, 9), (14, (13,), 1, 9), (2, (1,), 30, 0)]:
                for kept in [[4, 20], list(range(61)), [0, 4, 20, 60]]:
                    door(rules, kept)
        for rules in [(1, (), 1, 0), (14, tuple(range(1, 14)), 30, 9)]:
            for kept in [[], [0], [60]]:
                longest(rules, kept)
                late_day(rules, kept)
                alive(rules, kept, 60)

    def test_wrong_stretches(self):
        kept = [0, 1, 4, 5, 6, 60]
        for thing in NO_NUMBERS + beyond(0, 60) + [2, 3, 7, 59]:
            for first, last in [(thing, 4), (0, thing), (thing, 60), (thing, thing)]:
                with self.assertRaises(BadStretch, msg=repr((first, last))):
                    judged(RULES, kept, first, last)
        for first, last in itertools.product(kept, kept):
            if first > last:
                self.assertRaises(BadStretch, judged, RULES, kept, first, last)
            else:
                judged(RULES, kept, first, last)
        self.assertRaises(BadStretch, judged, RULES, [], 0, 0)

    def test_wrong_today(self):
        for kept in ([0, 1, 60], list(range(61))):
            for thing in NO_NUMBERS + beyond(0, 60):
                self.assertRaises(BadDay, alive, RULES, kept, thing)
                self.assertRaises(BadDay, until, RULES, kept, thing)

    def test_nothing_is_changed(self):
        chance = random.Random(1)
        for turn in range(30):
            rules, kept = plain.some_rules(chance), [3] + [day for day in range(4, 60) if chance.randrange(3)]
            before = copy.deepcopy((rules, kept))
            longest(rules, kept), late_day(rules, kept), judged(rules, kept, kept[0], kept[-1])
            alive(rules, kept, 50), until(rules, kept, 3)
            self.assertRaises(BadStretch, judged, rules, kept, 0, 2)
            self.assertRaises(BadDay, alive, rules, kept, -1)
            self.assertEqual((rules, kept), before)


class AnswerKindsTest(unittest.TestCase):
    def test_classes(self):
        for one in (Longest, Empty, Whole, Broken):
            self.assertEqual(one.__bases__, (Answer,))
            self.assertIn("shows", vars(one))
