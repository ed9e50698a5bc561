"""What all doors ask of numbers."""


def is_number(value, low, high):
    """Whether it is a whole number from low to high."""
    # True and False are integers to Python, but no numbers to the document.
    return isinstance(value, int) and not isinstance(value, bool) and low <= value <= high


def are_rising(values, low, high):
    """Whether all are whole numbers from low to high, each greater than the one ahead of it."""
    # Only numbers may be compared, so their kind is asked of all of them first.
    if not all([is_number(value, low, high) for value in values]):
        return False
    return all([one < other for one, other in zip(values, values[1:])])
