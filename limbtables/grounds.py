"""Grounds: the fractions, or the rests by a prime."""

from limbtables.errors import NoGround, NoNumber
from limbtables.wholes import common_divisor, is_whole

LARGEST_PRIME = 97


def is_prime(number):
    """Whether a whole number is a prime."""
    return number > 1 and all([number % divisor != 0 for divisor in range(2, number)])


def tells_ground(thing):
    """Whether a thing of whatever kind is 0 or a prime that is not too large."""
    # The bounds are asked first, so that no large number is tried for divisors.
    if not is_whole(thing) or not 0 <= thing <= LARGEST_PRIME:
        return False
    return thing == 0 or is_prime(thing)


def fraction(top, bottom):
    """The fraction of a top and a bottom, in lowest terms."""
    if bottom == 0:
        raise NoNumber("the bottom of a fraction is not 0")
    divisor = common_divisor(top, bottom)
    if bottom < 0:
        divisor = -divisor
    return (top // divisor, bottom // divisor)


def inverse(rest, prime):
    """What times a rest, that is not 0, leaves 1 by the prime."""
    low, high = rest, prime
    low_times, high_times = 1, 0
    # All along, low is what low_times times the rest leaves, and high likewise.
    while low > 1:
        many = high // low
        low, high = high - many * low, low
        low_times, high_times = high_times - many * low_times, low_times
    return low_times % prime


def rest_of(top, bottom, prime):
    """What times the bottom leaves the rest of the top by the prime."""
    below = bottom % prime
    if below == 0:
        raise NoNumber("the bottom of a number is nothing that the prime divides")
    return top * inverse(below, prime) % prime


def is_fraction(thing):
    """Whether a thing of whatever kind is a fraction in lowest terms."""
    if not isinstance(thing, tuple) or len(thing) != 2:
        return False
    top, bottom = thing
    if not is_whole(top) or not is_whole(bottom) or bottom < 1:
        return False
    return common_divisor(top, bottom) == 1


class Ground:
    """The numbers that tables are made of: fractions of 0, else the rests by a prime."""

    def __init__(self, prime):
        if not tells_ground(prime):
            raise NoGround("a ground is told by 0 or a prime up to 97")
        self.prime = prime

    def number(self, top, bottom=1):
        """The number of a top and a bottom."""
        if self.prime == 0:
            return fraction(top, bottom)
        return rest_of(top, bottom, self.prime)

    def plus(self, a, b):
        """The sum of two numbers."""
        if self.prime == 0:
            return fraction(a[0] * b[1] + b[0] * a[1], a[1] * b[1])
        return (a + b) % self.prime

    def minus(self, a, b):
        """The first number less the second."""
        if self.prime == 0:
            return fraction(a[0] * b[1] - b[0] * a[1], a[1] * b[1])
        return (a - b) % self.prime

    def times(self, a, b):
        """The product of two numbers."""
        if self.prime == 0:
            return fraction(a[0] * b[0], a[1] * b[1])
        return a * b % self.prime

    def over(self, a, b):
        """The first number divided by the second, which is not nought."""
        if self.prime == 0:
            return fraction(a[0] * b[1], a[1] * b[0])
        return rest_of(a, b, self.prime)

    def is_number(self, thing):
        """Whether a thing of whatever kind is a number of this ground."""
        if self.prime == 0:
            return is_fraction(thing)
        return is_whole(thing) and 0 <= thing < self.prime
