"""Standings taken apart, and their counts [23], [3]."""

import random
import unittest
from collections import Counter

from drawn import KINDLESS, KINDS, moved, row, several, star
from limbtables.apart import counts, taken_apart
from limbtables.drawings import Drawing
from limbtables.errors import LimbError, NoKind
from limbtables.grounds import Ground
from limbtables.parts import part_of
from limbtables.roots import roots
from limbtables.standings import Standing, changed, count_maps, same, side_of
from reckoned import beside, good_drawings, leads, maps_counted, nothing_on, worth_of
from samples import GROUNDS, HUGE, rank_of, sample_changes, sample_of_rank, standing_of, table_of


def built(ground, chance, drawing, most):
    """Plain parts of which the sizes come to at most so many, as their roots."""
    found, left = [], most
    given = roots(drawing)
    while left > 0 and chance.random() < 0.9:
        fitting = [root for root in given if sum(root) <= left]
        if not fitting:
            break
        root = chance.choice(fitting)
        for _ in range(min(chance.choice([1, 1, 2, 3]), left // sum(root))):
            found.append(root)
            left -= sum(root)
    chance.shuffle(found)
    return found


def led(ground, chance, drawing, chosen):
    """The plain parts of these roots side by side, led by changes."""
    known = {tuple(root): part_of(ground, drawing, root) for root in chosen}
    whole = side_of(ground, drawing, [known[tuple(root)] for root in chosen])
    return changed(whole, sample_changes(ground, chance, whole))


def counted(chosen):
    return sorted((list(root), many) for root, many in Counter(map(tuple, chosen)).items())


class Apart(unittest.TestCase):
    def check(self, standing):
        found = taken_apart(standing)
        self.assertIs(type(found), tuple)
        parts, changes = found
        self.assertIs(type(parts), list)
        self.assertIs(type(changes), list)
        ground, drawing = standing.ground, standing.drawing
        for part in parts:
            self.assertIs(type(part), Standing)
            self.assertEqual(part.ground.prime, ground.prime)
            self.assertEqual((part.drawing.many, part.drawing.arrows), (drawing.many, drawing.arrows))
            self.assertEqual(worth_of(drawing, part.sizes), 1)
        for part, other in zip(parts, parts[1:]):
            self.assertLessEqual(part.sizes, other.sizes)
            if part.sizes == other.sizes:
                self.assertTrue(same(part, other))
        for part in {tuple(part.sizes): part for part in parts}.values():
            self.assertEqual(count_maps(part, part), 1)
        self.assertTrue(leads(standing, changes, *beside(ground, drawing, parts)))
        self.assertEqual(counts(standing), counted([part.sizes for part in parts]))
        return parts

    def test_as_they_were_built(self):
        chance = random.Random(1)
        for at, drawing in enumerate(good_drawings(1, 64)):
            for ground in (Ground(0), Ground((2, 3, 5, 97)[at % 4])):
                chosen = built(ground, chance, drawing, 14)
                standing = led(ground, chance, drawing, chosen)
                self.assertEqual(counts(standing), counted(chosen))
                self.assertEqual([part.sizes for part in self.check(standing)], sorted(chosen))
                again = changed(standing, sample_changes(ground, chance, standing))
                self.assertEqual(counts(again), counted(chosen))

    def test_any_standings(self):
        chance = random.Random(2)
        for at, drawing in enumerate(good_drawings(2, 64)):
            for ground in (Ground(0), Ground((2, 3, 5, 97)[at % 4])):
                standing = standing_of(ground, chance, drawing, 4)
                due = counts(standing)
                self.check(standing)
                self.assertEqual(counts(changed(standing, sample_changes(ground, chance, standing))), due)

    def test_each_part_by_itself(self):
        chance = random.Random(3)
        for kind, (many, arrows) in KINDS:
            drawing = Drawing(many, moved(chance, many, arrows))
            ground = Ground(chance.choice([0, 2, 3, 7]))
            for root in chance.sample(roots(drawing), min(12, len(roots(drawing)))):
                standing = led(ground, chance, drawing, [root])
                self.assertEqual([part.sizes for part in self.check(standing)], [root])
                self.assertEqual(counts(standing), [(root, 1)])

    def test_of_all_noughts(self):
        chance = random.Random(4)
        for drawing in good_drawings(4, 32):
            for ground in (Ground(0), Ground(2)):
                sizes = [chance.randint(0, 3) for _ in range(drawing.many)]
                standing = nothing_on(ground, drawing, sizes)
                self.check(standing)
                ones = [[int(other == point) for other in range(drawing.many)] for point in range(drawing.many)]
                due = sorted((one, size) for one, size in zip(ones, sizes) if size)
                self.assertEqual(counts(standing), due)

    def test_of_sizes_nought(self):
        for drawing in good_drawings(5, 20):
            for ground in GROUNDS:
                standing = nothing_on(ground, drawing, [0] * drawing.many)
                self.assertEqual(counts(standing), [])
                self.assertEqual(taken_apart(standing), ([], [(0, 0, [])] * drawing.many))

    def test_of_one_point(self):
        for ground in GROUNDS:
            for size in (0, 1, 5, 40):
                standing = Standing(ground, Drawing(1, []), [size], [])
                self.assertEqual(len(self.check(standing)), size)
                self.assertEqual(counts(standing), [([1], size)] if size else [])

    def test_of_one_arrow(self):
        """The counts of one table come of its rank and sizes."""
        chance = random.Random(6)
        for ground in GROUNDS:
            for tail, head in ((0, 1), (1, 0)):
                for _ in range(10):
                    sizes = [chance.randint(0, 5), chance.randint(0, 5)]
                    table = sample_of_rank(ground, chance, sizes[head], sizes[tail], chance.randint(0, 5))
                    standing = Standing(ground, Drawing(2, [(tail, head)]), sizes, [table])
                    rank = rank_of(ground, table)
                    due = [([0, 1], sizes[1] - rank), ([1, 0], sizes[0] - rank), ([1, 1], rank)]
                    self.assertEqual(counts(standing), [(root, many) for root, many in due if many])
                    self.check(standing)

    def test_of_three_lines(self):
        """Three lines in a plane: unlike ones are one part, of which two are the same they are two."""
        drawing = Drawing(4, [(0, 3), (1, 3), (2, 3)])
        for ground in GROUNDS:
            lines = [table_of(ground, 2, 1, column) for column in ([[1], [0]], [[0], [1]], [[1], [1]])]
            standing = Standing(ground, drawing, [1, 1, 1, 2], lines)
            self.assertEqual(counts(standing), [([1, 1, 1, 2], 1)])
            standing = Standing(ground, drawing, [1, 1, 1, 2], [lines[0], lines[1], lines[0]])
            self.assertEqual(counts(standing), [([0, 1, 0, 1], 1), ([1, 0, 1, 1], 1)])
            standing = Standing(ground, drawing, [1, 1, 1, 2], [lines[2]] * 3)
            self.assertEqual(counts(standing), [([0, 0, 0, 1], 1), ([1, 1, 1, 1], 1)])

    def test_by_two_is_not_by_nought(self):
        """The same numbers, 0 and 1, may stand otherwise by 2."""
        drawing = Drawing(4, [(0, 3), (1, 3), (2, 3)])
        rows = [[1, 1, 0], [1, 0, 1], [0, 1, 1]]
        for prime, due in ((0, 3), (2, 2), (3, 3)):
            ground = Ground(prime)
            tables = [table_of(ground, 3, 1, [[line[k]] for k in range(3)]) for line in rows]
            standing = Standing(ground, drawing, [1, 1, 1, 3], tables)
            self.assertEqual(len(counts(standing)), due)
            self.check(standing)

    def test_of_several_pieces(self):
        chance = random.Random(7)
        for pieces in ([row(1), row(1)], [row(2), row(3)], [star(1, 1, 1), row(2), row(1)], [star(1, 1, 2), row(3)],
                       [star(1, 2, 2), row(2)], [row(1)] * 8, [star(1, 1, 1), star(1, 1, 1)]):
            drawing = Drawing(*several(chance, pieces))
            for ground in (Ground(0), Ground(2), Ground(5)):
                chosen = built(ground, chance, drawing, 20)
                standing = led(ground, chance, drawing, chosen)
                self.assertEqual([part.sizes for part in self.check(standing)], sorted(chosen))

    def test_sizes_that_come_to_forty(self):
        chance = random.Random(8)
        for many, arrows in (row(2), row(4), row(8), star(1, 1, 1), star(1, 1, 5), star(1, 2, 2), star(1, 2, 4)):
            for prime in (0, 2, 97):
                ground = Ground(prime)
                drawing = Drawing(many, moved(chance, many, arrows))
                sizes = [40 // many] * many
                sizes[0] += 40 - sum(sizes)
                tables = [sample_of_rank(ground, chance, sizes[head], sizes[tail], min(sizes))
                          for tail, head in drawing.arrows]
                self.check(Standing(ground, drawing, sizes, tables))
                self.check(nothing_on(ground, drawing, sizes))
                chosen = []
                while sum(map(sum, chosen)) < 40:
                    left = 40 - sum(map(sum, chosen))
                    chosen.append(chance.choice([root for root in roots(drawing) if sum(root) <= left]))
                standing = led(ground, chance, drawing, chosen)
                self.assertEqual(sum(standing.sizes), 40)
                self.assertEqual([part.sizes for part in self.check(standing)], sorted(chosen))

    def test_numbers_of_thirty_figures(self):
        chance = random.Random(9)
        ground = Ground(0)
        for many, arrows in (row(3), star(1, 1, 1), star(1, 2, 2)):
            drawing = Drawing(many, moved(chance, many, arrows))
            sizes = [chance.randint(1, 3) for _ in range(many)]
            tables = [(sizes[head], sizes[tail], [[ground.number(chance.randint(-HUGE, HUGE), chance.randint(1, HUGE))
                                                  for _ in range(sizes[tail])] for _ in range(sizes[head])])
                      for tail, head in drawing.arrows]
            self.check(Standing(ground, drawing, sizes, tables))

    def test_refused(self):
        chance = random.Random(10)
        for many, arrows in KINDLESS + [(4, [(0, 1), (2, 3), (2, 3)]), (2, [(0, 0)])]:
            drawing = Drawing(many, moved(chance, many, arrows))
            for ground in (Ground(0), Ground(2)):
                for standing in (nothing_on(ground, drawing, [0] * many), standing_of(ground, chance, drawing)):
                    for deed in (taken_apart, counts):
                        with self.assertRaises(NoKind) as caught:
                            deed(standing)
                        self.assertIsInstance(caught.exception, LimbError)


class CountsHangOnTheStandingAlone(unittest.TestCase):
    def test_counts_tell_the_maps(self):
        """Maps from each plain part are the sum of those to the parts that are there."""
        chance = random.Random(11)
        for drawing in good_drawings(11, 14, most=4):
            for ground in (Ground(0), Ground(2)):
                standing = standing_of(ground, chance, drawing)
                for root in roots(drawing):
                    part = part_of(ground, drawing, root)
                    due = sum(many * count_maps(part, part_of(ground, drawing, other))
                              for other, many in counts(standing))
                    self.assertEqual(maps_counted(part, standing), due)


if __name__ == "__main__":
    unittest.main()
