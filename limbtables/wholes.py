"""Whole numbers: the one helper of the other modules."""

LONG = 4000
LEADING = 126


def is_whole(thing):
    """Whether a thing of whatever kind is a whole number; truths are none."""
    return isinstance(thing, int) and not isinstance(thing, bool)


def common_divisor(one, other):
    """The greatest number that divides both; 0 of two noughts."""
    if one.bit_length() > LONG:
        one, other = not_both_long(abs(one), abs(other))
    while other != 0:
        one, other = other, one % other
    return abs(one)


def not_both_long(one, other):
    """Of two numbers from 0 on two others, one of them not long, that the same numbers divide."""
    while min(one, other).bit_length() > LONG:
        one, other = shortened(one, other)
    return (one, other)


def shortened(one, other):
    """Of two long numbers from 0 on two others, one of them far smaller, that the same numbers divide.

    Many steps are taken at once, reckoned by the leading bits alone: each step by itself takes far longer.
    """
    if one < other:
        one, other = other, one
    shift = one.bit_length() - LEADING
    a, b, c, d = leading_steps(one >> shift, other >> shift)
    if b == 0:
        return (other, one % other)
    # The same numbers divide these even where the leading bits told a step that is not quite right.
    return (abs(a * one + b * other), abs(c * one + d * other))


def leading_steps(one, other):
    """How often both numbers are taken, for each of the two that come of them while the lesser one is large."""
    a, b, c, d = 1, 0, 0, 1
    while other >= 2 ** 64:
        many = one // other
        one, other = other, one - many * other
        a, b, c, d = c, d, a - many * c, b - many * d
    return (a, b, c, d)


def common_multiple(one, other):
    """The least number above nought that both, above nought too, divide."""
    return one // common_divisor(one, other) * other
