"""Promise [7]: diaries walked deed by deed."""

import random
import unittest

from streakdays.diaries import Diary
from streakdays.errors import BadDevice, BadEntry, BadMinute, BadWords, BadZone, StreakError, TooMany, Unlike
from streakdays.words import days
from tests.plain import NO_LISTS, NO_NUMBERS, beyond
from tests.test_words import wrong_words


def filled(many, device=0):
    """A diary that knows so many kept words, each of a day of its own from day 1 on."""
    diary = Diary(device)
    for at in range(many):
        diary.keep(1440 + at * 1400, 0)
    return diary


class DeedsTest(unittest.TestCase):
    def test_one_day(self):
        diary = Diary(2)
        self.assertEqual((diary.all_words(), diary.all_days()), ([], []))
        self.assertEqual(diary.keep(2879, 1), (1, 2))
        self.assertEqual(diary.keep(1440, -720), (2, 0))
        self.assertEqual(diary.keep(86399, 840), (3, 60))
        self.assertEqual(diary.all_words(), [
            ("kept", 1, 2, 2879, 1), ("kept", 2, 2, 1440, -720), ("kept", 3, 2, 86399, 840),
        ])
        self.assertEqual(diary.all_days(), [0, 2, 60])
        self.assertIs(type(diary.keep(5000, 0)), tuple)

    def test_strike_tells_how_many_days_are_kept(self):
        diary = Diary(0)
        for minute in (1440, 1500, 4000):
            diary.keep(minute, 0)
        self.assertEqual(diary.strike(1, 0), 2)
        self.assertEqual(diary.strike(2, 0), 1)
        self.assertEqual(diary.all_days(), [2])
        self.assertRaises(BadEntry, diary.strike, 2, 0)
        self.assertEqual(diary.strike(3, 0), 0)
        self.assertEqual(diary.all_words()[3:], [("struck", 1, 0), ("struck", 2, 0), ("struck", 3, 0)])

    def test_strike_of_another_device(self):
        diary = Diary(0)
        diary.hear([("kept", 7, 3, 9000, 0), ("kept", 8, 3, 1440, 0)])
        self.assertEqual(diary.strike(7, 3), 1)
        self.assertEqual(diary.all_days(), [1])

    def test_counts_go_on_from_the_greatest_own_kept_one(self):
        diary = Diary(1)
        diary.hear([("kept", 9, 0, 9000, 0), ("struck", 50, 1)])
        self.assertEqual(diary.keep(1440, 0)[0], 1)
        diary.hear([("kept", 20, 1, 9000, 0), ("kept", 5, 1, 9000, 0)])
        self.assertEqual(diary.keep(1440, 0)[0], 21)
        diary.strike(21, 1)
        self.assertEqual(diary.keep(1440, 0)[0], 22)

    def test_an_entry_struck_ahead_of_its_kept_word(self):
        diary = Diary(0)
        self.assertEqual(diary.hear([("struck", 1, 0), ("struck", 4, 2)]), 2)
        self.assertRaises(BadEntry, diary.strike, 4, 2)
        self.assertEqual(diary.keep(1440, 0), (1, 1))
        self.assertEqual(diary.all_days(), [])
        self.assertRaises(BadEntry, diary.strike, 1, 0)
        self.assertEqual(diary.hear([("kept", 4, 2, 4000, 0)]), 1)
        self.assertEqual(diary.all_days(), [])
        self.assertRaises(BadEntry, diary.strike, 4, 2)

    def test_hear_tells_how_many_are_new(self):
        diary = filled(2)
        words = [("kept", 1, 1, 4000, 0), ("kept", 1, 1, 4000, 0), ("struck", 1, 1), ("kept", 1, 0, 1440, 0)]
        self.assertEqual(diary.hear(words), 2)
        self.assertEqual(diary.hear(words), 0)
        self.assertEqual(diary.hear([]), 0)
        self.assertEqual(diary.hear(diary.all_words()), 0)
        self.assertEqual(diary.all_words(), [
            ("kept", 1, 0, 1440, 0), ("kept", 1, 1, 4000, 0), ("kept", 2, 0, 2840, 0), ("struck", 1, 1),
        ])

    def test_nothing_is_shared(self):
        diary, other = Diary(0), Diary(0)
        words = [("kept", 3, 1, 4000, 0)]
        diary.hear(words)
        words.append(None)
        diary.all_words().clear()
        diary.all_days().clear()
        self.assertEqual((diary.all_words(), diary.all_days()), ([("kept", 3, 1, 4000, 0)], [2]))
        self.assertEqual(words, [("kept", 3, 1, 4000, 0), None])
        self.assertEqual(other.all_words(), [])

    def test_diaries_hear_from_each_other(self):
        for seed in range(30):
            self.walk(random.Random(seed))

    def walk(self, chance):
        """Deeds by chance, each held against a plain set of words; in the end all know the same."""
        diaries, known = [Diary(device) for device in range(4)], [set() for device in range(4)]
        for turn in range(40):
            at, deed = chance.randrange(4), chance.randrange(4)
            if deed <= 1:
                self.keep(chance, diaries[at], known[at], at)
            elif deed == 2:
                self.strike(chance, diaries[at], known[at])
            else:
                self.hear(diaries[at], known[at], chance.choice(diaries).all_words())
            self.assertEqual(diaries[at].all_words(), sorted(known[at]))
            self.assertEqual(diaries[at].all_days(), days(sorted(known[at])))
        for diary in diaries + diaries:
            diary.hear(diaries[chance.randrange(4)].all_words())
            for other in chance.sample(diaries, 4):
                diary.hear(other.all_words())
        self.assertTrue(all(diary.all_words() == diaries[0].all_words() for diary in diaries))
        self.assertEqual(diaries[0].all_words(), sorted(set().union(*known)))

    def keep(self, chance, diary, known, device):
        count = 1 + max([word[1] for word in known if word[0] == "kept" and word[2] == device], default=0)
        minute, zone = chance.randrange(1440, 86400), chance.randrange(-720, 841)
        self.assertEqual(diary.keep(minute, zone), (count, (minute + zone) // 1440))
        known.add(("kept", count, device, minute, zone))

    def strike(self, chance, diary, known):
        count, device = chance.randrange(1, 6), chance.randrange(4)
        is_kept = any(word[:3] == ("kept", count, device) for word in known)
        if is_kept and ("struck", count, device) not in known:
            known.add(("struck", count, device))
            self.assertEqual(diary.strike(count, device), len(days(sorted(known))))
        else:
            self.assertRaises(BadEntry, diary.strike, count, device)

    def hear(self, diary, known, words):
        self.assertEqual(diary.hear(words), len(set(words) - known))
        known.update(words)


class RefusalsTest(unittest.TestCase):
    def refused(self, error, diary, deed, *handed):
        before = diary.all_words()
        with self.assertRaises(error, msg=repr(handed)) as caught:
            deed(*handed)
        self.assertIs(type(caught.exception), error)
        self.assertEqual(diary.all_words(), before)

    def test_devices(self):
        for device in range(4):
            self.assertEqual(Diary(device).keep(1440, 0), (1, 1))
        for thing in NO_NUMBERS + beyond(0, 3):
            self.assertRaises(BadDevice, Diary, thing)

    def test_keep(self):
        diary = filled(2)
        for thing in NO_NUMBERS + beyond(1440, 86399):
            self.refused(BadMinute, diary, diary.keep, thing, 0)
            self.refused(BadMinute, diary, diary.keep, thing, None)
        for thing in NO_NUMBERS + beyond(-720, 840):
            self.refused(BadZone, diary, diary.keep, 1440, thing)
        self.assertEqual(diary.keep(1440, 0), (3, 1))

    def test_strike(self):
        diary = Diary(0)
        diary.hear([("kept", count, device, 9000, 0) for count in (1, 2, 99) for device in (0, 1)])
        for thing in NO_NUMBERS + beyond(1, 99) + [3, 98]:
            self.refused(BadEntry, diary, diary.strike, thing, 0)
            self.refused(BadEntry, diary, diary.strike, thing, thing)
        for thing in NO_NUMBERS + beyond(0, 3) + [2, 3]:
            self.refused(BadEntry, diary, diary.strike, 1, thing)
        self.assertEqual(diary.strike(99, 1), 1)
        self.refused(BadEntry, diary, diary.strike, 99, 1)

    def test_hear(self):
        diary = filled(2)
        good = [("kept", 4, 2, 2000, 5), ("struck", 4, 2)]
        for thing in NO_LISTS + [tuple(good), good[0]]:
            self.refused(BadWords, diary, diary.hear, thing)
        for wrong in wrong_words():
            for at in range(3):
                self.refused(BadWords, diary, diary.hear, good[:at] + [wrong] + good[at:])
        self.refused(BadWords, diary, diary.hear, good[:1] * 61)
        unlike = ("kept", 4, 2, 2000, 6)
        self.refused(Unlike, diary, diary.hear, good + [unlike])
        self.refused(BadWords, diary, diary.hear, good + [unlike, None])
        for unlike in [("kept", 2, 0, 2841, 0), ("kept", 2, 0, 2840, 1)]:
            for at in range(3):
                self.refused(Unlike, diary, diary.hear, good[:at] + [unlike] + good[at:])
        self.assertEqual(diary.hear(good), 2)

    def test_count_above_99(self):
        diary = Diary(3)
        diary.hear([("kept", 98, 3, 9000, 0), ("kept", 99, 2, 9000, 0)])
        self.assertEqual(diary.keep(1440, 0), (99, 1))
        self.refused(TooMany, diary, diary.keep, 1440, 0)
        self.refused(BadZone, diary, diary.keep, 1440, 841)
        self.refused(BadMinute, diary, diary.keep, 1439, 841)
        self.assertEqual(diary.strike(99, 3), 1)
        self.refused(TooMany, diary, diary.keep, 1440, 0)

    def test_sixty_words(self):
        diary = filled(59)
        self.assertEqual(diary.hear([("struck", 9, 2)]), 1)
        self.refused(TooMany, diary, diary.keep, 1440, 0)
        self.refused(BadMinute, diary, diary.keep, 0, 0)
        self.refused(BadZone, diary, diary.keep, 1440, 1000)
        self.refused(TooMany, diary, diary.strike, 1, 0)
        self.refused(BadEntry, diary, diary.strike, 60, 0)
        self.refused(BadEntry, diary, diary.strike, 9, 2)
        self.refused(TooMany, diary, diary.hear, [("struck", 9, 3)])
        self.refused(Unlike, diary, diary.hear, [("struck", 9, 3), ("kept", 1, 0, 1441, 0)])
        self.refused(BadWords, diary, diary.hear, [("struck", 9, 3), ("kept", 1, 0, 1441, 0), 5])
        self.assertEqual(diary.hear(diary.all_words()), 0)
        self.assertEqual(len(diary.all_words()), 60)

    def test_up_to_sixty(self):
        diary = filled(58)
        self.refused(TooMany, diary, diary.hear, [("struck", 9, 1), ("struck", 9, 2), ("struck", 9, 3)])
        self.assertEqual(diary.hear([("struck", 9, 1), ("struck", 9, 1), ("kept", 1, 0, 1440, 0)]), 1)
        self.assertEqual(diary.strike(1, 0), len(diary.all_days()))
        self.refused(TooMany, diary, diary.strike, 2, 0)
        self.assertEqual(filled(60).all_words()[-1], ("kept", 60, 0, 1440 + 59 * 1400, 0))

    def test_one_class_above_all(self):
        for error in (BadDevice, BadEntry, BadMinute, BadWords, BadZone, TooMany, Unlike):
            self.assertTrue(issubclass(error, StreakError))


class MethodsTest(unittest.TestCase):
    def test_stand_in_the_class_itself(self):
        for name in ("__init__", "keep", "strike", "hear", "all_words", "all_days"):
            self.assertIn(name, vars(Diary))
