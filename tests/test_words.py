"""Promise [2]: words, joined and days."""

import copy
import itertools
import random
import unittest

from streakdays.errors import BadWords, TooMany, Unlike
from streakdays.words import days, joined
from tests.plain import NO_LISTS, NO_NUMBERS, NO_TUPLES, beyond

KEPT = ("kept", 1, 0, 1440, 0)
STRUCK = ("struck", 1, 0)


def many_kept(many, device=0):
    return [("kept", count, device, 1440 + 700 * count, 0) for count in range(1, many + 1)]


def wrong_words():
    """Things that are no words: each member of a good one put wrong, and other lengths and kinds."""
    yield from NO_TUPLES
    yield from [(), ("kept",), ("struck",), ("kept", 1), ("struck", 1), ("kept", 1, 0), ("kept", 1, 0, 1440)]
    yield from [KEPT + (0,), STRUCK + (0,), STRUCK + (1440, 0), list(KEPT), list(STRUCK), (KEPT,), (STRUCK,)]
    yield from [("", 1, 0), ("Struck", 1, 0), ("struck ", 1, 0), ("KEPT", 1, 0, 1440, 0), ("keep", 1, 0, 1440, 0)]
    limits = {1: (1, 99), 2: (0, 3), 3: (1440, 86399), 4: (-720, 840)}
    for good in (KEPT, STRUCK):
        for at in range(len(good)):
            wrong = NO_NUMBERS + (beyond(*limits[at]) if at else [0, 1])
            for thing in wrong:
                if not isinstance(thing, str) or thing != good[at]:
                    yield good[:at] + (thing,) + good[at + 1:]


class JoinedTest(unittest.TestCase):
    def test_each_once_in_order(self):
        one = [("struck", 2, 0), ("kept", 10, 0, 5000, 0), ("kept", 2, 1, 4000, 60), ("kept", 2, 0, 4000, 60)]
        other = [("kept", 2, 0, 4000, 60), ("struck", 1, 3), ("kept", 1, 3, 1440, -720), ("struck", 2, 0)]
        self.assertEqual(joined(one, other), [
            ("kept", 1, 3, 1440, -720), ("kept", 2, 0, 4000, 60), ("kept", 2, 1, 4000, 60), ("kept", 10, 0, 5000, 0),
            ("struck", 1, 3), ("struck", 2, 0),
        ])

    def test_none(self):
        self.assertEqual(joined([], []), [])
        self.assertEqual(joined([KEPT], []), [KEPT])
        self.assertEqual(joined([], [STRUCK]), [STRUCK])

    def test_alike_ones_are_one(self):
        self.assertEqual(joined([KEPT] * 60, [KEPT] * 60), [KEPT])
        self.assertEqual(joined([STRUCK, STRUCK], [STRUCK]), [STRUCK])

    def test_the_same_in_each_turn_and_again(self):
        chance = random.Random(2)
        everything = [
            ("kept", count, device, 1440 + 977 * count * (device + 1), 60 * device)
            for count in range(1, 9) for device in range(4)
        ] + [("struck", count, device) for count in range(1, 6) for device in range(4)]
        for turn in range(40):
            lists = [[chance.choice(everything) for at in range(chance.randrange(12))] for part in range(3)]
            plain = sorted(set(lists[0] + lists[1] + lists[2]))
            for one, two, three in itertools.permutations(lists):
                self.assertEqual(joined(joined(one, two), three), plain)
                self.assertEqual(joined(one, joined(two, three)), plain)
                self.assertEqual(joined(joined(joined(one, two), three), two), plain)
            self.assertEqual(joined(plain, plain), plain)

    def test_edges_of_numbers(self):
        words = [
            ("kept", 1, 0, 1440, -720), ("kept", 99, 3, 86399, 840), ("struck", 1, 0), ("struck", 99, 3),
        ]
        self.assertEqual(joined(words[2:], words[:2]), words)

    def test_sixty_and_more(self):
        self.assertEqual(len(joined(many_kept(30), many_kept(30, 1))), 60)
        self.assertEqual(joined(many_kept(59), many_kept(59)), many_kept(59))
        self.assertEqual(len(joined(many_kept(59), many_kept(1, 1))), 60)
        for one, other in [(59, 2), (2, 59), (31, 30), (60, 60), (1, 60), (60, 1)]:
            self.assertRaises(TooMany, joined, many_kept(one), many_kept(other, 1))
        sixty = many_kept(30) + many_kept(30, 1)
        self.assertEqual(joined(sixty, sixty), joined([], sixty))
        self.assertRaises(TooMany, joined, sixty, [STRUCK])
        self.assertRaises(TooMany, joined, [STRUCK], sixty)

    def test_unlike(self):
        for unlike in [("kept", 1, 0, 1441, 0), ("kept", 1, 0, 1440, 1)]:
            for one, other in [([KEPT], [unlike]), ([KEPT, unlike], []), ([], [unlike, KEPT])]:
                self.assertRaises(Unlike, joined, one, other)
                self.assertRaises(Unlike, joined, other, one)
        # Of the same day, but not the same word.
        self.assertRaises(Unlike, joined, [KEPT], [("kept", 1, 0, 1500, -60)])

    def test_what_is_handed_in_stays(self):
        one, other = [STRUCK, KEPT, KEPT], [("kept", 1, 1, 1440, 0), KEPT]
        before = copy.deepcopy((one, other))
        told = joined(one, other)
        told.append("mine")
        self.assertEqual((one, other), before)
        self.assertEqual(len(joined(one, other)), 3)
        self.assertIsNot(joined(other, []), other)
        known = [KEPT]
        joined(known, known).clear()
        self.assertEqual(known, [KEPT])

    def test_in_the_order_told(self):
        bad, unlike = [None], [KEPT, ("kept", 1, 0, 1441, 0)]
        sixty = many_kept(60)
        self.assertRaises(BadWords, joined, bad, unlike)
        self.assertRaises(Unlike, joined, unlike, bad)
        self.assertRaises(BadWords, joined, unlike + bad, [])
        self.assertRaises(BadWords, joined, [], unlike + bad)
        self.assertRaises(BadWords, joined, sixty, bad)
        # One unlike and more than sixty in all.
        self.assertRaises(Unlike, joined, sixty, [("kept", 1, 0, 9999, 0), ("kept", 1, 1, 9999, 0)])


class DaysTest(unittest.TestCase):
    def test_rising_each_once(self):
        words = [
            ("kept", 3, 0, 9 * 1440, 0), ("kept", 1, 0, 2 * 1440, 0), ("kept", 1, 1, 2 * 1440 + 1439, 0),
            ("kept", 2, 0, 5 * 1440 + 7, 0),
        ]
        self.assertEqual(days(words), [2, 5, 9])
        self.assertEqual(days(words[::-1] + words), [2, 5, 9])
        self.assertEqual(days([]), [])

    def test_zones_over_midnight(self):
        for minute, zone, day in [
            (1440, 0, 1), (1440, -1, 0), (1440, -720, 0), (2879, 0, 1), (2879, 1, 2), (2880, -1, 1), (2160, 720, 2),
            (2159, 720, 1), (86399, 0, 59), (86399, 1, 60), (86399, 840, 60), (85560, 840, 60), (85559, 840, 59),
            (1440, 840, 1), (86399, -720, 59), (2040, 840, 2), (2039, 840, 1),
        ]:
            self.assertEqual(days([("kept", 1, 0, minute, zone)]), [day], (minute, zone))

    def test_struck_ones_known_and_unknown(self):
        words = [("kept", 1, 0, 1440, 0), ("kept", 2, 0, 2880, 0), ("kept", 1, 1, 4320, 0), ("kept", 2, 1, 2900, 0)]
        for struck, told in [
            ([(1, 0)], [2, 3]), ([(2, 0)], [1, 2, 3]), ([(2, 0), (2, 1)], [1, 3]), ([(1, 1)], [1, 2]),
            ([(9, 0), (1, 2), (3, 1)], [1, 2, 3]), ([(1, 0), (2, 0), (1, 1), (2, 1)], []),
        ]:
            strikes = [("struck", count, device) for count, device in struck]
            for handed in (words + strikes, strikes + words, strikes + words + strikes):
                self.assertEqual(days(handed), told, struck)
        self.assertEqual(days([("struck", 99, 3)]), [])

    def test_against_plain_trying(self):
        chance = random.Random(22)
        for turn in range(200):
            words = [
                ("kept", count, device, chance.randrange(1440, 86400), chance.randrange(-720, 841))
                for count in range(1, 8) for device in range(4) if chance.randrange(3)
            ] + [("struck", chance.randrange(1, 8), chance.randrange(4)) for at in range(chance.randrange(20))]
            chance.shuffle(words)
            plain = {
                (word[3] + word[4]) // 1440 for word in words
                if word[0] == "kept" and ("struck", word[1], word[2]) not in words
            }
            self.assertEqual(days(words), sorted(plain))

    def test_what_is_handed_in_stays(self):
        words = [STRUCK, ("kept", 2, 0, 9999, 0), KEPT]
        before = list(words)
        days(words).append(7)
        self.assertEqual(words, before)
        self.assertEqual(days(words), [6])

    def test_unlike(self):
        self.assertRaises(Unlike, days, [KEPT, ("kept", 1, 0, 1440, 1)])
        # A struck one that is unlike is unlike still.
        self.assertRaises(Unlike, days, [KEPT, STRUCK, ("kept", 1, 0, 1441, 0)])
        self.assertRaises(BadWords, days, [KEPT, ("kept", 1, 0, 1440, 1), None])


class WrongWordsTest(unittest.TestCase):
    def doors(self):
        return [days, lambda words: joined(words, []), lambda words: joined([], words)]

    def test_no_lists(self):
        for door in self.doors():
            for thing in NO_LISTS + [(KEPT,), {KEPT: True}, {KEPT}, KEPT, STRUCK]:
                self.assertRaises(BadWords, door, thing)

    def test_one_bad_word_at_any_place(self):
        good = [("kept", 4, 2, 2000, 5), ("struck", 4, 2)]
        for door in self.doors():
            for wrong in wrong_words():
                for at in range(3):
                    words = good[:at] + [wrong] + good[at:]
                    with self.assertRaises(BadWords, msg=repr(words)):
                        door(words)
                    self.assertEqual(len(words), 3)

    def test_at_most_sixty_alike_ones_counted(self):
        for door in self.doors():
            self.assertIsInstance(door([KEPT] * 60), list)
            self.assertIsInstance(door(many_kept(60)), list)
            self.assertRaises(BadWords, door, [KEPT] * 61)
            self.assertRaises(BadWords, door, [KEPT] * 60 + [("kept", 1, 0, 1441, 0)])
            self.assertRaises(BadWords, door, [KEPT] * 1000)

    def test_each_number_at_its_edges(self):
        for word in [
            ("kept", 1, 0, 1440, -720), ("kept", 99, 3, 86399, 840), ("kept", 1, 3, 1440, 840), ("struck", 99, 0),
        ]:
            self.assertEqual(joined([word], []), [word])
