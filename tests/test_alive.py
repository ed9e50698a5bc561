"""Promises [5] and [6]: the streak that is alive, until when, and the day to keep late."""

import itertools
import unittest

from streakdays.errors import BadDay
from streakdays.streaks import alive, late_day, until
from tests import plain
from tests.plain import RULES

DAILY = (1, (), 1, 0)


class AliveTest(unittest.TestCase):
    def test_by_hand(self):
        kept = [2, 3, 4, 8]
        for today, told in [
            (0, None), (1, None), (2, (2, 1)), (3, (2, 2)), (4, (2, 3)), (5, (2, 3)), (6, None), (7, None), (8, (8, 1)),
            (9, (8, 1)), (10, None), (60, None),
        ]:
            self.assertEqual(alive(DAILY, kept, today), told, today)

    def test_today_may_be_kept_yet(self):
        # Today is missed so far, which is not held against the streak until tomorrow.
        self.assertEqual(alive(DAILY, [0], 1), (0, 1))
        self.assertEqual(until(DAILY, [0], 1), 1)
        self.assertIsNone(alive(DAILY, [0], 2))

    def test_the_earliest_is_told(self):
        # Days 1 and 2 are bad: what begins on day 0 is dead, but day 3 begins anew.
        self.assertEqual(alive((1, (), 2, 1), [0, 3, 5, 7], 8), (3, 3))
        self.assertEqual(alive((1, (), 2, 1), [0, 2, 4, 6], 7), (0, 4))

    def test_days_kept_later_count_nothing(self):
        self.assertEqual(alive(RULES, [0, 1, 2, 3, 10], 3), (0, 4))
        self.assertEqual(until(RULES, [0, 1, 2, 3], 3), until(RULES, [0, 1, 2, 3] + list(range(4, 61)), 3))
        self.assertIsNone(alive(RULES, [10], 9))

    def test_against_plain_trying(self):
        seen = {"alive": 0, "dead": 0, "never": 0}
        for rules, kept in plain.cases(5, 350):
            for today in sorted({0, 60, *kept[:3], *kept[-2:], *range(3, 60, 8)}):
                told = plain.alive(rules, kept, today)
                case = (rules, kept, today)
                self.assertEqual(alive(rules, kept, today), told, case)
                if told is None:
                    seen["dead"] += 1
                    self.assertRaises(BadDay, until, rules, kept, today)
                else:
                    end = plain.until(rules, kept, today)
                    seen["never" if end is None else "alive"] += 1
                    self.assertEqual(until(rules, kept, today), end, case)
        self.assertGreater(min(seen.values()), 300)

    def test_kinds(self):
        self.assertIs(type(alive(RULES, [0], 0)), tuple)
        self.assertIs(type(until(RULES, [0], 0)), int)


class UntilTest(unittest.TestCase):
    def test_by_hand(self):
        for rules, kept, today, day in [
            (DAILY, [0], 0, 1), (DAILY, [60], 60, 61), ((1, (), 2, 1), [5], 5, 7), ((1, (), 30, 9), [60], 60, 70),
            ((7, (5, 6), 7, 0), [4], 4, 7), ((7, (5, 6), 7, 1), [4], 4, 8),
            ((14, tuple(range(13)), 1, 0), [60], 60, 69), ((14, tuple(range(13)), 30, 2), [13], 14, 55),
            ((14, tuple(range(1, 14)), 29, 2), [0], 0, 42),
        ]:
            self.assertEqual(until(rules, kept, today), day, (rules, kept, today))

    def test_never(self):
        for rules in [(1, (), 1, 1), (1, (), 9, 9), (14, tuple(range(13)), 30, 3), (14, tuple(range(13)), 14, 1)]:
            for kept, today in [([0], 0), ([0], 60), ([60], 60), (list(range(61)), 7)]:
                self.assertIsNone(until(rules, kept, today), (rules, kept, today))

    def test_all_rounds_and_widths_with_one_working_day(self):
        # So few working days make bad days on end come as late as they can.
        for size, width, let in itertools.product(range(1, 15), (1, 2, 13, 14, 15, 29, 30), (0, 1, 2)):
            rules = (size, tuple(range(1, size)), width, let)
            for today in (0, 59, 60):
                if plain.alive(rules, [0, 59], today) is not None:
                    self.assertEqual(until(rules, [0, 59], today), plain.until(rules, [0, 59], today), (rules, today))

    def test_none_alive(self):
        self.assertRaises(BadDay, until, RULES, [], 0)
        self.assertRaises(BadDay, until, RULES, [10], 9)
        self.assertRaises(BadDay, until, DAILY, [10], 12)


class LateDayTest(unittest.TestCase):
    def test_by_hand(self):
        for rules, kept, told in [
            (DAILY, [], (0, 1)), (DAILY, [0], (1, 2)), (DAILY, [1], (0, 2)), (DAILY, [60], (59, 2)),
            (DAILY, [0, 1, 3, 4, 10, 11, 12], (2, 5)), (DAILY, [0, 2, 4], (1, 3)), (DAILY, list(range(60)), (60, 61)),
            (DAILY, list(range(1, 61)), (0, 61)), (DAILY, list(range(61)), None), ((1, (), 9, 9), [30], (0, 2)),
            # A day of rest may be kept, too.
            ((2, (1,), 1, 0), [0, 2], (1, 3)),
        ]:
            self.assertEqual(late_day(rules, kept), told, (rules, kept))

    def test_against_plain_trying(self):
        for rules, kept in plain.cases(6, 60):
            self.assertEqual(late_day(rules, kept), plain.late_day(rules, kept), (rules, kept))

    def test_kinds(self):
        self.assertIs(type(late_day(RULES, [0, 3])), tuple)
