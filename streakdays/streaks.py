"""What is told of rules and kept days."""

from streakdays.answers import Broken, Empty, Longest, Whole
from streakdays.checks import are_rising, is_number
from streakdays.errors import BadDay, BadDays, BadRules, BadStretch
from streakdays.stretches import KeptDays

LAST_DAY = 60


def longest(rules, kept):
    """The longest streak and the bars that no streak has in it, or that none is kept."""
    known = checked(rules, kept)
    if not kept:
        return Empty()
    bars = known.bad_spans(kept[0], kept[-1])
    run = max(known.runs(bars), key=len)
    return Longest(run[0], run[-1], bars)


def judged(rules, kept, first, last):
    """Whether the stretch from first to last is a streak, or bad days on end within it."""
    known = checked(rules, kept)
    if not is_day(first) or not is_day(last) or first not in kept or last not in kept or first > last:
        raise BadStretch("a stretch goes from a kept day to the same or a later one")
    spans = known.bad_spans(first, last)
    if not spans:
        return Whole()
    one, other = spans[0]
    return Broken(one, other)


def alive(rules, kept, today):
    """The first day of the earliest streak that is alive today, and how many days of it are kept; or None."""
    known = checked(rules, kept)
    if not is_day(today):
        raise BadDay("a day is a number from 0 to 60")
    past = [day for day in kept if day <= today]
    for at, first in enumerate(past):
        if not known.bad_spans(first, today - 1):
            return first, len(past) - at
    return None


def until(rules, kept, today):
    """The earliest day with which the streak that is alive today has bad days on end, or None."""
    told = alive(rules, kept, today)
    if told is None:
        raise BadDay("no streak is alive on this day")
    known = KeptDays(rules, [day for day in kept if day <= today])
    # Behind today the missed days come again each round, so bad ones begin within one round or never.
    spans = known.bad_spans(told[0], today + known.cycle + known.width)
    if not spans:
        return None
    return spans[0][1]


def late_day(rules, kept):
    """The day that, kept too, lengthens the longest streak most, and how many kept days it has then; or None."""
    checked(rules, kept)
    best = None
    for day in range(LAST_DAY + 1):
        if day not in kept:
            many = most_kept(rules, sorted([*kept, day]))
            if best is None or many > best[1]:
                best = (day, many)
    return best


def most_kept(rules, kept):
    """How many kept days the longest streak has; there is one."""
    known = KeptDays(rules, kept)
    return max([len(run) for run in known.runs(known.bad_spans(kept[0], kept[-1]))])


def checked(rules, kept):
    """The kept days under the rules; refused if either is none."""
    if not are_rules(rules):
        raise BadRules("rules are a round, rests, a width and how many are let")
    if not isinstance(kept, list) or not are_rising(kept, 0, LAST_DAY):
        raise BadDays("kept days are a rising list of days from 0 to 60")
    return KeptDays(rules, kept)


def are_rules(rules):
    """Whether it is a tuple of a round, rests, a width and how many are let."""
    if not isinstance(rules, tuple) or len(rules) != 4:
        return False
    cycle, rests, width, let = rules
    if not is_number(cycle, 1, 14) or not are_rests(rests, cycle):
        return False
    return is_number(width, 1, 30) and is_number(let, 0, 9)


def are_rests(rests, cycle):
    """Whether it is a rising tuple of days of the round, not all of them."""
    return isinstance(rests, tuple) and len(rests) < cycle and are_rising(rests, 0, cycle - 1)


def is_day(day):
    """Whether it is a day from 0 to 60."""
    return is_number(day, 0, LAST_DAY)
