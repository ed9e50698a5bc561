"""What the document says, told again by plain trying, to hold the program's answers against."""

import random


class LikeAll:
    """Equal to anything, so that a careless comparison takes it for a number or a text."""

    def __eq__(self, other):
        return True

    def __hash__(self):
        return 1


NO_NUMBERS = [
    None, True, False, "", "1", "kept", b"", b"1", [], [1], (), (1,), {}, {1: 1}, set(), {1}, frozenset(),
    range(3), object(), LikeAll(), len, int, ValueError, iter([1]),
]
NO_LISTS = [thing for thing in NO_NUMBERS if not isinstance(thing, list)] + [0, 1, -1, 61, 10 ** 30]
NO_TUPLES = [thing for thing in NO_NUMBERS if not isinstance(thing, tuple)] + [0, 1, -1, 61, 10 ** 30]

RULES = (7, (5, 6), 7, 1)


def beyond(low, high):
    """Whole numbers that are not from low to high."""
    return [low - 1, low - 2, high + 1, high + 2, -10 ** 30, 10 ** 30]


def is_missed(rules, kept, day):
    return day not in kept and day % rules[0] not in rules[1]


def is_bad(rules, kept, one, other):
    if one > other or other - one + 1 > rules[2]:
        return False
    return sum(is_missed(rules, kept, day) for day in range(one, other + 1)) > rules[3]


def has_bad(rules, kept, first, last):
    """Whether there are bad days on end anywhere from first to last."""
    missed = [is_missed(rules, kept, day) for day in range(first, last + 1)]
    # From each day on only the widest are tried: shorter ones have no more missed days.
    return any(sum(missed[at:at + rules[2]]) > rules[3] for at in range(len(missed)))


def is_streak(rules, kept, first, last):
    return first in kept and last in kept and first <= last and not has_bad(rules, kept, first, last)


def how_many(kept, first, last):
    return sum(first <= day <= last for day in kept)


def most_kept(rules, kept):
    """How many kept days the longest streak has; each stretch of kept ends that could be longer is tried."""
    best = 0
    for at in range(len(kept)):
        for to in range(at, len(kept)):
            if to - at + 1 > best and not has_bad(rules, kept, kept[at], kept[to]):
                best = to - at + 1
    return best


def is_longest(rules, kept, first, last, bars):
    """Whether a Longest with these fields is as the document tells."""
    if not is_streak(rules, kept, first, last):
        return False
    many = how_many(kept, first, last)
    if many != most_kept(rules, kept) or not all(is_bad(rules, kept, one, other) for one, other in bars):
        return False
    if not bars:
        return len(kept) <= many
    rooms = [[day for day in kept if day < bars[0][1]], [day for day in kept if day > bars[-1][0]]]
    for at in range(len(bars) - 1):
        if not (bars[at][0] < bars[at + 1][0] and bars[at][1] < bars[at + 1][1]):
            return False
        rooms.append([day for day in kept if bars[at][0] < day < bars[at + 1][1]])
    return all(len(room) <= many for room in rooms)


def alive(rules, kept, today):
    past = [day for day in kept if day <= today]
    for first in past:
        if not has_bad(rules, past, first, today - 1):
            return first, how_many(past, first, today)
    return None


def until(rules, kept, today):
    """Asked only where a streak is alive; tried far beyond where bad days on end can begin."""
    past = [day for day in kept if day <= today]
    first = alive(rules, kept, today)[0]
    for last in range(today, today + 120):
        # All from the first day on are tried, but those that end earlier have been tried before.
        if any(is_bad(rules, past, one, last) for one in range(first, last + 1)):
            return last
    return None


def late_day(rules, kept):
    found = [(most_kept(rules, sorted(kept + [day])), -day) for day in range(61) if day not in kept]
    if not found:
        return None
    many, day = max(found)
    return -day, many


def some_rules(chance):
    """Rules of any kind, but such more often under which both streaks and bad days are found."""
    size = chance.choice([1, 2, 3, 5, 7, 7, 10, 14])
    rests = tuple(sorted(chance.sample(range(size), chance.randrange(size))))
    width = chance.choice([1, 2, 3, 4, 5, 7, 10, 14, 29, 30])
    return size, rests, width, chance.choice([0, 0, 1, 1, 2, 3, 5, 8, 9])


def some_kept(chance):
    part = chance.choice([5, 20, 35, 50, 65, 80, 95])
    low, high = sorted([chance.randrange(61), chance.randrange(61)])
    return [day for day in range(low, high + 1) if chance.randrange(100) < part]


def cases(seed, many):
    """Rules and kept days: the edges, then as many by chance, the same in each run."""
    few = (14, tuple(range(13)), 30, 9)
    for rules in [(1, (), 1, 0), few, (14, (), 30, 0), (2, (1,), 1, 9), (1, (), 30, 9), RULES]:
        for kept in [[], [0], [60], [30], [0, 60], list(range(61)), list(range(0, 61, 2)), list(range(0, 61, 11))]:
            yield rules, kept
    chance = random.Random(seed)
    for turn in range(many):
        yield some_rules(chance), some_kept(chance)
