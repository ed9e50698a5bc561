"""Kept days under rules: which days are missed, which are bad on end, and what stands between these."""


class KeptDays:
    """Kept days and the rules that they are held against."""

    def __init__(self, rules, kept):
        self.cycle, self.rests, self.width, self.let = rules
        # A dict, since bars may be many and each of their days is looked up.
        self.kept = {day: True for day in kept}

    def missed_days(self, first, last):
        """The days from first to last that are neither kept nor of rest."""
        return [
            day for day in range(first, last + 1)
            if day not in self.kept and day % self.cycle not in self.rests
        ]

    def is_bad(self, one, other):
        """Whether the days from one to other are bad days on end."""
        # The width goes first: days that are far apart must not be walked.
        return other - one < self.width and len(self.missed_days(one, other)) > self.let

    def bad_spans(self, first, last):
        """The bad days on end from first to last that have no shorter ones in them."""
        # The shortest ones begin and end with a missed day and have one more of them than are let.
        missed = self.missed_days(first, last)
        return [(one, other) for one, other in zip(missed, missed[self.let:]) if other - one < self.width]

    def is_streak(self, first, last):
        """Whether the days from first to last are a streak."""
        # Kept ends go first: they bound the days that are walked.
        if first not in self.kept or last not in self.kept or first > last:
            return False
        return not self.bad_spans(first, last)

    def runs(self, bars):
        """The kept days ahead of the first bar's last day, between each two, and behind the last one's first day."""
        kept = list(self.kept)
        behind = [kept[0] - 1] + [one for one, other in bars]
        ahead = [other for one, other in bars] + [kept[-1] + 1]
        return [[day for day in kept if low < day < high] for low, high in zip(behind, ahead)]
