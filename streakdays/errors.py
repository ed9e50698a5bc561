"""The refusals, one class for each thing that can be wrong."""


class StreakError(ValueError):
    """What each refusal of this package is."""


class BadWords(StreakError):
    """No list of at most sixty words."""


class BadRules(StreakError):
    """No tuple of a round, rests, a width and how many are let."""


class BadDays(StreakError):
    """No rising list of days from 0 to 60."""


class BadDay(StreakError):
    """No day from 0 to 60, or one on which no streak is alive where one is asked for."""


class BadStretch(StreakError):
    """No stretch from a kept day to the same or a later one."""


class BadDevice(StreakError):
    """No number from 0 to 3."""


class BadMinute(StreakError):
    """No number from 1440 to 86399."""


class BadZone(StreakError):
    """No number from -720 to 840."""


class BadEntry(StreakError):
    """No kept word that the diary knows, or one that it knows as struck."""


class Unlike(StreakError):
    """Two words of one kind, count and device that are unlike."""


class TooMany(StreakError):
    """More than sixty words, or a count above 99."""
