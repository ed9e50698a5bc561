"""Words of devices: told, joined, and the days that they keep."""

from streakdays.checks import is_number
from streakdays.errors import BadWords, TooMany, Unlike

MOST_WORDS = 60
MOST_COUNT = 99
DAY_MINUTES = 1440


def joined(one, other):
    """All words of both lists, each once, in order."""
    both = united(checked(one) + checked(other))
    if len(both) > MOST_WORDS:
        raise TooMany("more than sixty words in all")
    return both


def days(words):
    """The days of all kept words that aren't struck, rising, each once."""
    known = checked(words)
    struck = {word[1:]: True for word in known if word[0] == "struck"}
    return sorted({day_of(word[3], word[4]) for word in known if word[0] == "kept" and word[1:3] not in struck})


def day_of(minute, zone):
    """The day that it is at a minute in a zone."""
    return (minute + zone) // DAY_MINUTES


def checked(words):
    """The words, each once, in order; refused if they are none."""
    if not isinstance(words, list) or len(words) > MOST_WORDS:
        raise BadWords("words are a list of at most sixty")
    for word in words:
        if not is_word(word):
            raise BadWords("a word is a kept or a struck one")
    return united(words)


def united(words):
    """The words, each once, in order; refused if two of one name are unlike."""
    by_name = {}
    for word in words:
        if by_name.setdefault(word[:3], word) != word:
            raise Unlike("two words of one kind, count and device are unlike")
    return sorted(by_name.values())


def is_word(word):
    """Whether it is a kept or a struck word."""
    if not isinstance(word, tuple) or len(word) not in (3, 5):
        return False
    if not isinstance(word[0], str) or not is_count(word[1]) or not is_device(word[2]):
        return False
    if len(word) == 3:
        return word[0] == "struck"
    return word[0] == "kept" and is_minute(word[3]) and is_zone(word[4])


def is_count(count):
    """Whether it is a count that a word can have."""
    return is_number(count, 1, MOST_COUNT)


def is_device(device):
    """Whether it is one of the devices."""
    return is_number(device, 0, 3)


def is_minute(minute):
    """Whether a day can be kept at this minute."""
    return is_number(minute, 1440, 86399)


def is_zone(zone):
    """Whether a day can be kept in this zone."""
    return is_number(zone, -720, 840)
