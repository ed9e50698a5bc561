"""Diaries of devices, which keep, strike and hear."""

from streakdays.errors import BadDevice, BadEntry, BadMinute, BadZone, TooMany
from streakdays.words import MOST_COUNT, day_of, days, is_count, is_device, is_minute, is_zone, joined


class Diary:
    """The words that one device knows."""

    def __init__(self, device):
        if not is_device(device):
            raise BadDevice("a device is a number from 0 to 3")
        self.device = device
        self.known = []

    def keep(self, minute, zone):
        """Keeps a day; its count and the day are told."""
        if not is_minute(minute):
            raise BadMinute("a minute is a number from 1440 to 86399")
        if not is_zone(zone):
            raise BadZone("a zone is a number from -720 to 840")
        count = self.last_count() + 1
        if count > MOST_COUNT:
            raise TooMany("a count would be above 99")
        self.known = joined(self.known, [("kept", count, self.device, minute, zone)])
        return count, day_of(minute, zone)

    def strike(self, count, device):
        """Strikes a kept word; how many days are kept then is told."""
        if not self.can_strike(count, device):
            raise BadEntry("no kept word that is known, or it is known as struck")
        self.known = joined(self.known, [("struck", count, device)])
        return len(self.all_days())

    def hear(self, words):
        """Joins words to the known ones; how many of them are new is told."""
        before = len(self.known)
        self.known = joined(self.known, words)
        return len(self.known) - before

    def all_words(self):
        """All known words, in order."""
        return list(self.known)

    def all_days(self):
        """The days that the known words keep."""
        return days(self.known)

    def last_count(self):
        """The greatest count of a known kept word of this device, 0 if there is none."""
        return max([word[1] for word in self.known if word[0] == "kept" and word[2] == self.device], default=0)

    def can_strike(self, count, device):
        """Whether the kept word of this count and device is known, and not as struck."""
        # The kinds go first: to Python, True would be found as 1.
        if not is_count(count) or not is_device(device) or ("struck", count, device) in self.known:
            return False
        return ("kept", count, device) in [word[:3] for word in self.known]
