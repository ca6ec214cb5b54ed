"""Whole numbers, divisors and multiples, held against Python's own reckoning."""

import math
import random
import unittest

from limbtables.wholes import common_divisor, common_multiple, is_whole
from samples import ODD_THINGS


class Divisors(unittest.TestCase):
    def check(self, one, other):
        for a, b in ((one, other), (other, one), (-one, other), (one, -other), (-one, -other)):
            self.assertEqual(common_divisor(a, b), math.gcd(a, b))

    def test_small_ones(self):
        for one in range(-12, 13):
            for other in range(-12, 13):
                self.check(one, other)

    def test_long_ones(self):
        chance = random.Random(1)
        for bits in (30, 63, 64, 65, 100, 126, 127, 1000, 3999, 4000, 4001, 4066, 5000, 9000, 20000):
            for shared in (1, 6, chance.getrandbits(bits) + 1):
                one, other = [(chance.getrandbits(bits) + 1) * shared for _ in range(2)]
                self.check(one, other)
                self.check(one, one)
                self.check(one, one + shared)
                self.check(one * 3, one * 5)
                self.check(one * other, other)
                self.check(one, 0)

    def test_of_unlike_lengths(self):
        chance = random.Random(2)
        for bits in (10, 3000, 4100, 8000):
            for more in (10, 125, 126, 127, 500, 9000):
                one, other = chance.getrandbits(bits + more) + 1, chance.getrandbits(bits) + 1
                self.check(one, other)
                self.check(one * other, other * 7)

    def test_numbers_that_take_the_most_steps(self):
        """Two of the row 1, 2, 3, 5, 8 and so on; and powers of 2, and those less 1."""
        one, other = 1, 1
        for at in range(8000):
            one, other = other, one + other
            if at % 500 == 0:
                self.check(one, other)
                self.check(one * 12, other * 30)
        for bits in (4001, 5000, 8191):
            for more in (0, 1, 60, 62, 64, 126, 4096):
                self.check(2 ** (bits + more), 2 ** bits)
                self.check(2 ** (bits + more) - 1, 2 ** bits - 1)
                self.check(2 ** (bits + more) + 1, 2 ** bits - 1)

    def test_multiples(self):
        chance = random.Random(3)
        for bits in (3, 60, 4100, 9000):
            for _ in range(10):
                one, other = chance.getrandbits(bits) + 1, chance.getrandbits(bits) + 1
                self.assertEqual(common_multiple(one, other), math.lcm(one, other))
                self.assertEqual(common_multiple(one, one * 3), one * 3)


class Wholes(unittest.TestCase):
    def test_wholes(self):
        for number in (0, 1, -1, 10 ** 30):
            self.assertIs(is_whole(number), True)
        for thing in ODD_THINGS:
            self.assertIs(is_whole(thing), False)


if __name__ == "__main__":
    unittest.main()
