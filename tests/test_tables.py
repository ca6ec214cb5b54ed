"""What a table is, products, sums, and tables put together [5]."""

import random
import unittest

from limbtables import tables
from limbtables.errors import NoTable
from limbtables.grounds import Ground
from samples import (GROUNDS, HUGE, ODD_THINGS, PRIMES, empty, multiplied, sample, table_of, unit, value, values)

FIVE = Ground(5)
FRACTIONS = Ground(0)


class WhatIsATable(unittest.TestCase):
    def test_tables(self):
        for thing in [(0, 0, []), (0, 3, []), (3, 0, [[], [], []]), (1, 1, [[4]]), (2, 3, [[0, 1, 2], [3, 4, 0]])]:
            self.assertIs(tables.is_table(FIVE, thing), True, thing)
        for thing in [(0, 0, []), (0, 3, []), (2, 0, [[], []]), (1, 2, [[(0, 1), (-7, 3)]]),
                      (2, 1, [[(HUGE, 2)], [(1, HUGE)]])]:
            self.assertIs(tables.is_table(FRACTIONS, thing), True, thing)

    def test_samples_of_every_ground_up_to_24(self):
        chance = random.Random(1)
        for prime in [0] + PRIMES:
            ground = Ground(prime)
            for high, wide in [(0, 0), (0, 24), (24, 0), (1, 24), (24, 24), (5, 7)]:
                self.assertIs(tables.is_table(ground, sample(ground, chance, high, wide)), True)

    def test_wrong_heights_and_widths(self):
        for thing in [(1, 0, []), (0, 0, [[]]), (2, 1, [[1]]), (1, 1, [[1], [2]]), (1, 2, [[1]]), (1, 1, [[1, 2]]),
                      (2, 2, [[1, 2], [1]]), (2, 2, [[1, 2], [1, 2, 3]]), (-1, 0, []), (0, -1, []), (-1, -1, []),
                      (3, 0, []), (1, -1, [[]]), (2, 1, [[1, 2]]), (HUGE, 0, []), (24, 1, [[1]] * 25),
                      (24, 1, [[1]] * 26), (1, 24, [[1] * 25])]:
            self.assertIs(tables.is_table(FIVE, thing), False, thing)

    def test_truths_are_no_numbers(self):
        for thing in [(True, 1, [[1]]), (1, True, [[1]]), (False, 0, []), (0, False, []), (1, 1, [[True]]),
                      (1, 1, [[False]]), (2, 1, [[1], [True]])]:
            self.assertIs(tables.is_table(FIVE, thing), False, thing)
        for thing in [(1, 1, [[(True, 1)]]), (1, 1, [[(1, True)]]), (1, 1, [[True]])]:
            self.assertIs(tables.is_table(FRACTIONS, thing), False, thing)

    def test_rows_that_are_no_lists(self):
        for thing in [(1, 1, [(1,)]), (1, 1, ([1],)), (0, 0, ()), (1, 0, [()]), (1, 0, [None]), (1, 1, ["1"]),
                      (2, 1, [[1], (1,)]), (1, 1, [1]), (0, 0, None), (0, 0, ""), (1, 1, {0: [1]}), (1, 0, [""])]:
            self.assertIs(tables.is_table(FIVE, thing), False, thing)

    def test_numbers_of_another_ground(self):
        for thing in [(1, 1, [[5]]), (1, 1, [[-1]]), (1, 1, [[(1, 1)]]), (1, 2, [[1, 6]]), (1, 1, [["1"]]),
                      (1, 1, [[None]]), (1, 1, [[[1]]])]:
            self.assertIs(tables.is_table(FIVE, thing), False, thing)
        for thing in [(1, 1, [[1]]), (1, 1, [[0]]), (1, 1, [[(2, 2)]]), (1, 1, [[(1, 0)]]), (1, 1, [[(1, -1)]]),
                      (1, 1, [[[1, 1]]]), (1, 2, [[(1, 1), 1]]), (1, 1, [[None]])]:
            self.assertIs(tables.is_table(FRACTIONS, thing), False, thing)
        self.assertIs(tables.is_table(Ground(7), (1, 1, [[5]])), True)

    def test_things_of_another_kind(self):
        more = [[1, 1, [[1]]], (1, 1), (1, 1, [[1]], 1), (None, 1, [[1]]), ("1", 1, [[1]]), (1, (1,), [[1]]),
                ((1, 1, [[1]]),), [], (), ([], [], [])]
        for ground in GROUNDS:
            for thing in ODD_THINGS + more:
                self.assertIs(tables.is_table(ground, thing), False, repr(thing))


class PlainAndNoughts(unittest.TestCase):
    def test_plain(self):
        self.assertEqual(tables.plain(FIVE, 0), (0, 0, []))
        self.assertEqual(tables.plain(FIVE, 2), (2, 2, [[1, 0], [0, 1]]))
        self.assertEqual(tables.plain(FRACTIONS, 2), (2, 2, [[(1, 1), (0, 1)], [(0, 1), (1, 1)]]))
        for ground in GROUNDS:
            for many in (0, 1, 3, 24):
                self.assertEqual(tables.plain(ground, many), unit(ground, many))

    def test_noughts(self):
        self.assertEqual(tables.noughts(FIVE, 0, 0), (0, 0, []))
        self.assertEqual(tables.noughts(FIVE, 0, 3), (0, 3, []))
        self.assertEqual(tables.noughts(FIVE, 3, 0), (3, 0, [[], [], []]))
        self.assertEqual(tables.noughts(FRACTIONS, 2, 1), (2, 1, [[(0, 1)], [(0, 1)]]))
        for ground in GROUNDS:
            for high, wide in [(1, 4), (4, 1), (24, 23)]:
                self.assertEqual(tables.noughts(ground, high, wide), empty(ground, high, wide))

    def test_rows_are_lists_of_their_own(self):
        for ground in GROUNDS:
            for found, due in [(tables.plain(ground, 3), unit(ground, 3)),
                               (tables.noughts(ground, 3, 3), empty(ground, 3, 3))]:
                found[2][0][:] = []
                self.assertEqual(found[2][1:], due[2][1:])


class ProductsAndSums(unittest.TestCase):
    def test_written_ones(self):
        one, other = (2, 2, [[1, 2], [3, 4]]), (2, 1, [[2], [3]])
        self.assertEqual(tables.product(FIVE, one, other), (2, 1, [[3], [3]]))
        half, third = (1, 2, [[(1, 2), (1, 3)]]), (2, 1, [[(1, 1)], [(-3, 4)]])
        self.assertEqual(tables.product(FRACTIONS, half, third), (1, 1, [[(1, 4)]]))
        self.assertEqual(tables.product(FRACTIONS, third, half),
                         (2, 2, [[(1, 2), (1, 3)], [(-3, 8), (-1, 4)]]))
        self.assertEqual(tables.sum_of(FIVE, one, one), (2, 2, [[2, 4], [1, 3]]))
        self.assertEqual(tables.sum_of(FRACTIONS, half, half), (1, 2, [[(1, 1), (2, 3)]]))

    def test_products(self):
        chance = random.Random(2)
        for ground in GROUNDS:
            for high, within, wide in [(0, 0, 0), (0, 3, 2), (3, 0, 2), (2, 3, 0), (1, 1, 1), (2, 3, 4), (4, 3, 2),
                                       (5, 5, 5), (24, 24, 24)]:
                one, other = sample(ground, chance, high, within), sample(ground, chance, within, wide)
                self.assertEqual(tables.product(ground, one, other), multiplied(ground, one, other))

    def test_product_without_anything_within_is_noughts(self):
        for ground in GROUNDS:
            one, other = (2, 0, [[], []]), (0, 3, [])
            self.assertEqual(tables.product(ground, one, other), empty(ground, 2, 3))

    def test_plain_table_changes_nothing(self):
        chance = random.Random(3)
        for ground in GROUNDS:
            table = sample(ground, chance, 3, 5)
            self.assertEqual(tables.product(ground, tables.plain(ground, 3), table), table)
            self.assertEqual(tables.product(ground, table, tables.plain(ground, 5)), table)

    def test_sums(self):
        chance = random.Random(4)
        for ground in GROUNDS:
            for high, wide in [(0, 0), (0, 4), (4, 0), (1, 1), (3, 5), (24, 24)]:
                one, other = sample(ground, chance, high, wide), sample(ground, chance, high, wide)
                rows = [[a + b for a, b in zip(*pair)] for pair in zip(values(ground, one), values(ground, other))]
                self.assertEqual(tables.sum_of(ground, one, other), table_of(ground, high, wide, rows))

    def test_numbers_of_thirty_figures(self):
        chance = random.Random(5)
        ground = FRACTIONS

        def large():
            return ground.number(chance.randint(-HUGE, HUGE), chance.randint(1, HUGE))

        one = (24, 24, [[large() for _ in range(24)] for _ in range(24)])
        other = (24, 2, [[large(), large()] for _ in range(24)])
        self.assertEqual(tables.product(ground, one, other), multiplied(ground, one, other))
        found = tables.sum_of(ground, one, one)
        self.assertEqual(value(ground, found[2][23][22]), 2 * value(ground, one[2][23][22]))

    def test_what_does_not_fit(self):
        chance = random.Random(6)
        for ground in GROUNDS:
            for (a, b), (c, d) in [((2, 3), (2, 3)), ((2, 3), (4, 2)), ((0, 0), (1, 0)), ((1, 0), (1, 1)),
                                   ((2, 2), (0, 2)), ((3, 2), (3, 2))]:
                with self.assertRaises(NoTable):
                    tables.product(ground, sample(ground, chance, a, b), sample(ground, chance, c, d))
            for (a, b), (c, d) in [((2, 3), (3, 2)), ((2, 3), (2, 2)), ((2, 3), (3, 3)), ((0, 1), (0, 2)),
                                   ((1, 0), (2, 0)), ((0, 1), (1, 1)), ((0, 0), (0, 1)), ((0, 0), (1, 0))]:
                with self.assertRaises(NoTable):
                    tables.sum_of(ground, sample(ground, chance, a, b), sample(ground, chance, c, d))


class PutTogether(unittest.TestCase):
    def test_written_ones(self):
        one, other = (2, 1, [[1], [2]]), (2, 2, [[3, 4], [0, 1]])
        self.assertEqual(tables.side_by_side(FIVE, 2, [one, other]), (2, 3, [[1, 3, 4], [2, 0, 1]]))
        self.assertEqual(tables.side_by_side(FIVE, 2, [other, one]), (2, 3, [[3, 4, 1], [0, 1, 2]]))
        self.assertEqual(tables.one_over_another(FIVE, 2, [(1, 2, [[1, 2]]), other]),
                         (3, 2, [[1, 2], [3, 4], [0, 1]]))
        self.assertEqual(tables.along_corner(FIVE, [one, other]),
                         (4, 3, [[1, 0, 0], [2, 0, 0], [0, 3, 4], [0, 0, 1]]))
        self.assertEqual(tables.along_corner(FRACTIONS, [(1, 1, [[(1, 2)]]), (1, 1, [[(3, 1)]])]),
                         (2, 2, [[(1, 2), (0, 1)], [(0, 1), (3, 1)]]))

    def test_of_no_tables(self):
        for ground in GROUNDS:
            for many in (0, 1, 3, 24):
                self.assertEqual(tables.side_by_side(ground, many, []), (many, 0, [[] for _ in range(many)]))
                self.assertEqual(tables.one_over_another(ground, many, []), (0, many, []))
            self.assertEqual(tables.along_corner(ground, []), (0, 0, []))

    def test_tables_without_rows_or_columns(self):
        for ground in GROUNDS:
            self.assertEqual(tables.side_by_side(ground, 2, [(2, 0, [[], []]), (2, 0, [[], []])]), (2, 0, [[], []]))
            self.assertEqual(tables.side_by_side(ground, 0, [(0, 2, []), (0, 3, [])]), (0, 5, []))
            self.assertEqual(tables.one_over_another(ground, 0, [(2, 0, [[], []]), (1, 0, [[]])]),
                             (3, 0, [[], [], []]))
            self.assertEqual(tables.one_over_another(ground, 2, [(0, 2, []), (0, 2, [])]), (0, 2, []))
            self.assertEqual(tables.along_corner(ground, [(0, 2, []), (3, 0, [[], [], []])]), empty(ground, 3, 2))
            one = unit(ground, 1)
            due = table_of(ground, 2, 3, [[1, 0, 0], [0, 0, 1]])
            self.assertEqual(tables.along_corner(ground, [one, (0, 1, []), one]), due)
            due = table_of(ground, 3, 2, [[1, 0], [0, 0], [0, 1]])
            self.assertEqual(tables.along_corner(ground, [one, (1, 0, [[]]), one]), due)

    def test_each_number_at_its_place(self):
        chance = random.Random(7)
        for ground in GROUNDS:
            for many in (1, 2, 3, 4):
                self.side_by_side(ground, [sample(ground, chance, 3, chance.randint(0, 4)) for _ in range(many)])
                self.one_over_another(ground, [sample(ground, chance, chance.randint(0, 4), 3) for _ in range(many)])
                sizes = [(chance.randint(0, 3), chance.randint(0, 3)) for _ in range(many)]
                self.along_corner(ground, [sample(ground, chance, high, wide) for high, wide in sizes])

    def side_by_side(self, ground, given):
        high, wide, rows = tables.side_by_side(ground, 3, given)
        self.assertEqual((high, wide, len(rows)), (3, sum(table[1] for table in given), 3))
        for k in range(3):
            self.assertEqual(rows[k], [number for table in given for number in table[2][k]])

    def one_over_another(self, ground, given):
        high, wide, rows = tables.one_over_another(ground, 3, given)
        self.assertEqual((high, wide), (sum(table[0] for table in given), 3))
        self.assertEqual(rows, [row for table in given for row in table[2]])

    def along_corner(self, ground, given):
        high, wide, rows = tables.along_corner(ground, given)
        due = empty(ground, sum(table[0] for table in given), sum(table[1] for table in given))
        down = right = 0
        for table in given:
            for i in range(table[0]):
                for j in range(table[1]):
                    due[2][down + i][right + j] = table[2][i][j]
            down, right = down + table[0], right + table[1]
        self.assertEqual((high, wide, rows), due)

    def test_what_does_not_fit(self):
        chance = random.Random(8)
        for ground in GROUNDS:
            one, other, none = sample(ground, chance, 2, 3), sample(ground, chance, 3, 2), (0, 0, [])
            for high, given in [(2, [other]), (3, [one]), (2, [one, other]), (3, [one, other]), (0, [one]),
                                (2, [one, one, other]), (2, [other, one]), (2, [none]), (1, [none]),
                                (2, [one, none]), (0, [none, (1, 0, [[]])])]:
                with self.assertRaises(NoTable):
                    tables.side_by_side(ground, high, given)
            for wide, given in [(3, [other]), (2, [one]), (3, [one, other]), (2, [one, other]), (0, [one]),
                                (3, [one, one, other]), (3, [other, one]), (3, [none]), (1, [none]),
                                (3, [one, none]), (0, [none, (0, 1, [])])]:
                with self.assertRaises(NoTable):
                    tables.one_over_another(ground, wide, given)


if __name__ == "__main__":
    unittest.main()
