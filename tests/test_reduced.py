"""Reduced tables, ranks, and what comes of them [6, 7]."""

import itertools
import random
import unittest

from limbtables import tables
from limbtables.grounds import Ground
from samples import (GROUNDS, HUGE, PRIMES, empty, many_tables, multiplied, rank_of, sample, sample_of_rank,
                     sample_with_back, table_of, told, unit, values)

FIVE = Ground(5)
FRACTIONS = Ground(0)


def large_tables(ground):
    """Tables near the bounds: up to 24 rows and columns, of full rank and of less."""
    chance = random.Random(24)
    return [sample(ground, chance, 24, 24), sample_of_rank(ground, chance, 24, 24, 9),
            sample_of_rank(ground, chance, 24, 17, 16), sample_of_rank(ground, chance, 13, 24, 5),
            sample(ground, chance, 1, 24), sample(ground, chance, 24, 1), empty(ground, 24, 24),
            sample(ground, chance, 0, 24), sample(ground, chance, 24, 0)]


def large_numbers(chance, high, wide):
    """A table of fractions whose tops and bottoms have thirty figures."""
    return (high, wide, [[FRACTIONS.number(chance.randint(-HUGE, HUGE), chance.randint(1, HUGE)) for _ in range(wide)]
                         for _ in range(high)])


class Reckoned(unittest.TestCase):
    """Each answer multiplied out by the tests' own reckoning."""

    def fits(self, ground, table, high, wide):
        self.assertIs(tables.is_table(ground, table), True)
        self.assertEqual(table[:2], (high, wide))

    def each(self, look):
        for ground in GROUNDS:
            for table in many_tables(ground, "reduced") + large_tables(ground):
                look(ground, table)
        chance = random.Random(30)
        for high, wide in [(5, 5), (3, 6), (6, 3)]:
            look(FRACTIONS, large_numbers(chance, high, wide))
        for prime in PRIMES:
            for most in (2, 5):
                look(Ground(prime), sample_of_rank(Ground(prime), chance, 5, 6, most))

    def test_reduced(self):
        self.each(self.look_at_reduced)

    def look_at_reduced(self, ground, table):
        answer = tables.reduced(ground, table)
        self.assertIsInstance(answer, tuple)
        steps, found = answer
        self.fits(ground, found, table[0], table[1])
        self.fits(ground, steps, table[0], table[0])
        self.assertEqual(multiplied(ground, steps, table), found)
        self.assertEqual(rank_of(ground, steps), table[0])
        self.look_at_form(values(ground, found))

    def look_at_form(self, rows):
        begins = [next((k for k, number in enumerate(row) if number), None) for row in rows]
        ahead = [k for k in begins if k is not None]
        self.assertEqual(begins, ahead + [None] * (len(rows) - len(ahead)))
        self.assertEqual(ahead, sorted(set(ahead)))
        for at, place in enumerate(ahead):
            self.assertEqual([row[place] for row in rows], [int(k == at) for k in range(len(rows))])

    def test_rank(self):
        self.each(self.look_at_rank)

    def look_at_rank(self, ground, table):
        found = tables.rank(ground, table)
        self.assertIs(found.__class__, int)
        self.assertEqual(found, rank_of(ground, table))
        rows = tables.reduced(ground, table)[1][2]
        self.assertEqual(found, sum(any(number != told(ground, 0) for number in row) for row in rows))

    def test_to_nought(self):
        self.each(self.look_at_to_nought)

    def look_at_to_nought(self, ground, table):
        found = tables.to_nought(ground, table)
        wide = table[1] - rank_of(ground, table)
        self.fits(ground, found, table[1], wide)
        self.assertEqual(rank_of(ground, found), wide)
        self.assertEqual(multiplied(ground, table, found), empty(ground, table[0], wide))

    def test_made_by(self):
        self.each(self.look_at_made_by)

    def look_at_made_by(self, ground, table):
        found = tables.made_by(ground, table)
        wide = rank_of(ground, table)
        self.fits(ground, found, table[0], wide)
        self.assertEqual(rank_of(ground, found), wide)
        # Each column is made: put beside the table, it adds nothing to the rank.
        joined = [row + more for row, more in zip(table[2], found[2])]
        self.assertEqual(rank_of(ground, (table[0], table[1] + wide, joined)), wide)

    def test_left_beside(self):
        self.each(self.look_at_left_beside)

    def look_at_left_beside(self, ground, table):
        found = tables.left_beside(ground, table)
        high = table[0] - rank_of(ground, table)
        self.fits(ground, found, high, table[0])
        self.assertEqual(rank_of(ground, found), high)
        self.assertEqual(multiplied(ground, found, table), empty(ground, high, table[1]))

    def test_back_of(self):
        self.each(self.look_at_back_of)
        chance = random.Random(31)
        for ground in GROUNDS:
            for many in (0, 1, 2, 3, 5, 8, 24):
                table = sample_with_back(ground, chance, many)
                self.assertEqual(rank_of(ground, table), many)
                self.look_at_back_of(ground, table)

    def look_at_back_of(self, ground, table):
        found = tables.back_of(ground, table)
        if table[0] != table[1] or rank_of(ground, table) < table[0]:
            self.assertIsNone(found)
            return
        self.fits(ground, found, table[0], table[0])
        self.assertEqual(multiplied(ground, found, table), unit(ground, table[0]))
        self.assertEqual(multiplied(ground, table, found), unit(ground, table[0]))

    def test_led_to(self):
        self.chance = random.Random(32)
        self.each(self.look_at_led_to)

    def look_at_led_to(self, ground, table):
        rank = rank_of(ground, table)
        made = multiplied(ground, table, sample(ground, self.chance, table[1], 1))
        any_column = sample(ground, self.chance, table[0], 1)
        for column in (made, any_column, empty(ground, table[0], 1)):
            joined = (table[0], table[1] + 1, [row + more for row, more in zip(table[2], column[2])])
            found = tables.led_to(ground, table, column)
            if rank_of(ground, joined) > rank:
                self.assertIsNone(found)
            else:
                self.fits(ground, found, table[1], 1)
                self.assertEqual(multiplied(ground, table, found), column)


class Written(unittest.TestCase):
    """Answers that are written down here."""

    def test_reduced(self):
        table = table_of(FRACTIONS, 3, 4, [[0, 2, 4, 1], [0, 1, 2, 0], [0, 3, 6, 1]])
        due = table_of(FRACTIONS, 3, 4, [[0, 1, 2, 0], [0, 0, 0, 1], [0, 0, 0, 0]])
        self.assertEqual(tables.reduced(FRACTIONS, table)[1], due)
        self.assertEqual(tables.rank(FRACTIONS, table), 2)
        table = (2, 3, [[2, 4, 1], [1, 2, 4]])
        self.assertEqual(tables.reduced(FIVE, table)[1], (2, 3, [[1, 2, 0], [0, 0, 1]]))
        self.assertEqual(tables.rank(FIVE, (2, 2, [[1, 2], [3, 1]])), 1)
        self.assertEqual(tables.rank(Ground(7), (2, 2, [[1, 2], [3, 1]])), 2)

    def test_without_rows_or_columns(self):
        for ground in GROUNDS:
            self.assertEqual(tables.reduced(ground, (0, 0, [])), ((0, 0, []), (0, 0, [])))
            self.assertEqual(tables.reduced(ground, (0, 3, [])), ((0, 0, []), (0, 3, [])))
            steps, found = tables.reduced(ground, (2, 0, [[], []]))
            self.assertEqual(found, (2, 0, [[], []]))
            self.assertEqual((steps[:2], rank_of(ground, steps)), ((2, 2), 2))
            for table in [(0, 0, []), (0, 3, []), (2, 0, [[], []])]:
                self.assertEqual(tables.rank(ground, table), 0)
                self.assertEqual(tables.made_by(ground, table), (table[0], 0, [[] for _ in range(table[0])]))
            self.assertEqual(tables.to_nought(ground, (0, 0, [])), (0, 0, []))
            self.assertEqual(tables.to_nought(ground, (2, 0, [[], []])), (0, 0, []))
            self.assertEqual(rank_of(ground, tables.to_nought(ground, (0, 3, []))), 3)
            self.assertEqual(tables.left_beside(ground, (0, 3, [])), (0, 0, []))
            self.assertEqual(rank_of(ground, tables.left_beside(ground, (2, 0, [[], []]))), 2)
            self.assertEqual(tables.back_of(ground, (0, 0, [])), (0, 0, []))
            self.assertIsNone(tables.back_of(ground, (0, 1, [])))
            self.assertIsNone(tables.back_of(ground, (1, 0, [[]])))

    def test_led_to_without_rows_or_columns(self):
        for ground in GROUNDS:
            none = (0, 1, [])
            self.assertEqual(tables.led_to(ground, (0, 0, []), none), none)
            found = tables.led_to(ground, (0, 3, []), none)
            self.assertEqual(found[:2], (3, 1))
            self.assertIs(tables.is_table(ground, found), True)
            self.assertEqual(tables.led_to(ground, (2, 0, [[], []]), empty(ground, 2, 1)), none)
            self.assertIsNone(tables.led_to(ground, (2, 0, [[], []]), table_of(ground, 2, 1, [[0], [1]])))

    def test_backs(self):
        self.assertEqual(tables.back_of(FRACTIONS, (2, 2, [[(1, 1), (2, 1)], [(3, 1), (4, 1)]])),
                         (2, 2, [[(-2, 1), (1, 1)], [(3, 2), (-1, 2)]]))
        self.assertEqual(tables.back_of(FIVE, (1, 1, [[2]])), (1, 1, [[3]]))
        self.assertIsNone(tables.back_of(FIVE, (1, 1, [[0]])))
        self.assertIsNone(tables.back_of(FRACTIONS, table_of(FRACTIONS, 2, 2, [[1, 2], [2, 4]])))
        self.assertIsNone(tables.back_of(FIVE, (2, 3, [[1, 0, 0], [0, 1, 0]])))
        self.assertIsNone(tables.back_of(FIVE, (3, 2, [[1, 0], [0, 1], [0, 0]])))

    def test_one_way_alone(self):
        table = table_of(FRACTIONS, 2, 2, [[2, 1], [1, 1]])
        column = table_of(FRACTIONS, 2, 1, [[1], [0]])
        self.assertEqual(tables.led_to(FRACTIONS, table, column), table_of(FRACTIONS, 2, 1, [[1], [-1]]))
        self.assertIsNone(tables.led_to(FIVE, (2, 1, [[1], [2]]), (2, 1, [[1], [3]])))

    def test_every_table_of_two_by_three_by_two(self):
        ground = Ground(2)
        for numbers in itertools.product((0, 1), repeat=6):
            rows = [list(numbers[:3]), list(numbers[3:])]
            table = (2, 3, rows)
            columns = list(itertools.product((0, 1), repeat=3))
            made = {tuple(sum(a * b for a, b in zip(row, column)) % 2 for row in rows) for column in columns}
            self.assertEqual(2 ** tables.rank(ground, table), len(made))
            for column in itertools.product((0, 1), repeat=2):
                found = tables.led_to(ground, table, (2, 1, [[number] for number in column]))
                self.assertEqual(found is not None, column in made)

    def test_large_whole_numbers(self):
        chance = random.Random(33)
        table = (24, 24, [[(chance.randint(-HUGE, HUGE), 1) for _ in range(24)] for _ in range(24)])
        back = tables.back_of(FRACTIONS, table)
        self.assertEqual(multiplied(FRACTIONS, table, back), unit(FRACTIONS, 24))
        self.assertEqual(tables.back_of(FRACTIONS, back), table)


if __name__ == "__main__":
    unittest.main()
