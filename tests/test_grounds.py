"""Grounds and their numbers [4]."""

import math
import unittest
from fractions import Fraction

from limbtables.errors import LimbError, NoGround, NoNumber
from limbtables.grounds import Ground
from samples import HUGE, ODD_THINGS, PRIMES, told

FRACTIONS = sorted({Fraction(top, bottom) for top in range(-7, 8) for bottom in (1, 2, 3, 4, 6, 35)})


class Grounds(unittest.TestCase):
    def test_nought_and_primes(self):
        self.assertEqual(PRIMES[0], 2)
        self.assertEqual(PRIMES[-1], 97)
        self.assertEqual(len(PRIMES), 25)
        for prime in [0] + PRIMES:
            self.assertEqual(Ground(prime).prime, prime)

    def test_other_whole_numbers_are_refused(self):
        others = [n for n in range(-100, 400) if n != 0 and n not in PRIMES]
        others += [-2, -97, 7919, 10 ** 9 + 7, 2 ** 89 - 1, 2 ** 61 - 1, HUGE, -HUGE, 10 ** 30, 10 ** 6000]
        for number in others:
            with self.assertRaises(NoGround):
                Ground(number)

    def test_things_of_other_kinds_are_refused(self):
        for thing in ODD_THINGS:
            with self.subTest(repr(thing)):
                with self.assertRaises(NoGround) as caught:
                    Ground(thing)
                self.assertIsInstance(caught.exception, LimbError)

    def test_two_grounds_stand_apart(self):
        five, fractions = Ground(5), Ground(0)
        self.assertEqual(five.number(7), 2)
        self.assertEqual(fractions.number(7), (7, 1))
        self.assertEqual(five.number(7), 2)


class WhatIsANumber(unittest.TestCase):
    def test_fractions(self):
        ground = Ground(0)
        for thing in [(0, 1), (1, 1), (-1, 1), (1, 2), (-3, 2), (HUGE, 10 ** 30), (-HUGE, 2), (6, 35)]:
            self.assertIs(ground.is_number(thing), True, thing)
        for thing in [(0, 2), (0, 0), (1, 0), (0, -1), (1, -1), (-1, -2), (2, 2), (2, 4), (-6, 4), (-3, 3), (35, 14),
                      (HUGE, HUGE), (1, 2, 3), (1,), (True, 1), (1, True), (False, 1), ("1", 1), (1, "1"), (None, 1),
                      (1, None), [1, 2], [0, 1], ((1, 2), 1), (1, [2]), (Fraction(1), 1), 0, 1, 5, -1, Fraction(1, 2)]:
            self.assertIs(ground.is_number(thing), False, thing)

    def test_every_small_pair(self):
        ground = Ground(0)
        for top in range(-12, 13):
            for bottom in range(-12, 13):
                due = bottom >= 1 and math.gcd(top, bottom) == 1
                self.assertIs(ground.is_number((top, bottom)), due, (top, bottom))

    def test_rests(self):
        for prime in PRIMES:
            ground = Ground(prime)
            for thing in range(-prime - 2, 2 * prime + 2):
                self.assertIs(ground.is_number(thing), 0 <= thing < prime)
            for thing in [True, False, (0, 1), (1, 1), "1", None, [1], HUGE, -HUGE, Fraction(1)]:
                self.assertIs(ground.is_number(thing), False, thing)

    def test_things_of_other_kinds(self):
        for prime in [0] + PRIMES:
            for thing in ODD_THINGS:
                due = prime == 0 and thing == (0, 1)
                self.assertIs(Ground(prime).is_number(thing), due, repr(thing))


class Numbers(unittest.TestCase):
    def same(self, found, due):
        self.assertEqual(found, due)
        self.assertIs(found.__class__, due.__class__)

    def test_fractions_in_lowest_terms(self):
        ground = Ground(0)
        for top, bottom, due in [(6, 4, (3, 2)), (-6, 4, (-3, 2)), (6, -4, (-3, 2)), (-6, -4, (3, 2)), (0, 5, (0, 1)),
                                 (0, -5, (0, 1)), (5, 5, (1, 1)), (5, -5, (-1, 1)), (7, 1, (7, 1)), (7, -1, (-7, 1)),
                                 (HUGE, HUGE, (1, 1)), (HUGE, -9, (-HUGE // 9, 1)), (1, -HUGE, (-1, HUGE))]:
            self.same(ground.number(top, bottom), due)
        for top in range(-20, 21):
            self.same(ground.number(top), (top, 1))
            for bottom in list(range(-20, 0)) + list(range(1, 21)):
                self.same(ground.number(top, bottom), told(ground, Fraction(top, bottom)))

    def test_bottom_nought_is_refused(self):
        for prime in [0] + PRIMES:
            for top in (-3, 0, 1, 5, HUGE):
                with self.assertRaises(NoNumber):
                    Ground(prime).number(top, 0)

    def test_bottom_that_the_prime_divides_is_refused(self):
        for prime in PRIMES:
            ground = Ground(prime)
            for bottom in (prime, -prime, 2 * prime, -3 * prime, prime * HUGE):
                for top in (0, 1, -1, prime, bottom):
                    with self.assertRaises(NoNumber):
                        ground.number(top, bottom)

    def test_rests(self):
        for prime in PRIMES:
            ground = Ground(prime)
            for top in [-HUGE, -prime, -prime - 1, -1, 0, 1, prime - 1, prime, prime + 1, 5 * prime + 3, HUGE]:
                self.same(ground.number(top), top % prime)
                for bottom in [-HUGE, -prime - 1, -2, -1, 1, 2, 3, prime + 1, 3 * prime - 1, HUGE]:
                    if bottom % prime:
                        found = ground.number(top, bottom)
                        self.assertIs(found.__class__, int)
                        self.assertTrue(0 <= found < prime)
                        self.assertEqual((found * bottom - top) % prime, 0)

    def test_reckoning_with_fractions(self):
        ground = Ground(0)
        deeds = [(ground.plus, lambda a, b: a + b), (ground.minus, lambda a, b: a - b),
                 (ground.times, lambda a, b: a * b)]
        for a in FRACTIONS:
            for b in FRACTIONS:
                for deed, due in deeds:
                    self.same(deed(told(ground, a), told(ground, b)), told(ground, due(a, b)))
                if b:
                    self.same(ground.over(told(ground, a), told(ground, b)), told(ground, a / b))

    def test_reckoning_with_rests(self):
        for prime in PRIMES:
            ground = Ground(prime)
            for a in range(prime):
                for b in range(0, prime, 1 + prime // 12):
                    self.same(ground.plus(a, b), (a + b) % prime)
                    self.same(ground.minus(a, b), (a - b) % prime)
                    self.same(ground.times(a, b), a * b % prime)
                    if b:
                        found = ground.over(a, b)
                        self.assertTrue(0 <= found < prime)
                        self.assertEqual(found * b % prime, a)

    def test_large_fractions(self):
        ground = Ground(0)
        a, b = (HUGE, 10 ** 30), (-HUGE + 2, HUGE)
        one, other = Fraction(*a), Fraction(*b)
        b = (other.numerator, other.denominator)
        self.same(ground.plus(a, b), told(ground, one + other))
        self.same(ground.minus(a, b), told(ground, one - other))
        self.same(ground.times(a, b), told(ground, one * other))
        self.same(ground.over(a, b), told(ground, one / other))

    def test_division_by_nought_is_refused(self):
        for a in ((0, 1), (1, 1), (-5, 3)):
            with self.assertRaises(NoNumber):
                Ground(0).over(a, (0, 1))
        for prime in PRIMES:
            for a in range(prime):
                with self.assertRaises(NoNumber):
                    Ground(prime).over(a, 0)


if __name__ == "__main__":
    unittest.main()
