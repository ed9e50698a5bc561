"""The answers, each of which can be asked whether it is true."""

from streakdays.stretches import KeptDays


class Answer:
    """What each answer is."""


class Longest(Answer):
    """A streak with as many kept days as any has, and bars that no streak has in it."""

    def __init__(self, first, last, bars):
        self.first = first
        self.last = last
        self.bars = list(bars)

    def shows(self, rules, kept):
        """Whether the streak is one, and the bars leave no room for one with more kept days."""
        known = KeptDays(rules, kept)
        if not known.is_streak(self.first, self.last) or not are_bars(known, self.bars):
            return False
        many = len([day for day in kept if self.first <= day <= self.last])
        return all([len(run) <= many for run in known.runs(self.bars)])


class Empty(Answer):
    """No day is kept."""

    def shows(self, rules, kept):
        """Whether no day is kept."""
        return len(kept) == 0


class Whole(Answer):
    """The stretch is a streak."""

    def shows(self, rules, kept, first, last):
        """Whether the stretch is a streak."""
        return KeptDays(rules, kept).is_streak(first, last)


class Broken(Answer):
    """Bad days on end within the stretch."""

    def __init__(self, one, other):
        self.one = one
        self.other = other

    def shows(self, rules, kept, first, last):
        """Whether these are bad days on end within the stretch."""
        if self.one < first or self.other > last:
            return False
        return KeptDays(rules, kept).is_bad(self.one, self.other)


def are_bars(known, bars):
    """Whether all are bad days on end, each later than the one ahead by both its ends."""
    for ahead, bar in zip(bars, bars[1:]):
        if bar[0] <= ahead[0] or bar[1] <= ahead[1]:
            return False
    return all([known.is_bad(one, other) for one, other in bars])
