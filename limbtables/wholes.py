"""Whole numbers: the one helper of the other modules."""


def is_whole(thing):
    """Whether a thing of whatever kind is a whole number; truths are none."""
    return isinstance(thing, int) and not isinstance(thing, bool)


def common_divisor(one, other):
    """The greatest number that divides both; 0 of two noughts."""
    while other != 0:
        one, other = other, one % other
    return abs(one)


def common_multiple(one, other):
    """The least number above nought that both, above nought too, divide."""
    return one // common_divisor(one, other) * other
