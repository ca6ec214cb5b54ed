"""Standings turned at wells and springs, forth and back [20], [21], [3]."""

import random
import unittest

from drawn import samples
from limbtables.drawings import Drawing
from limbtables.errors import LimbError, NoMirror
from limbtables.grounds import Ground
from limbtables.mirrors import back_and_forth, forth_and_back, single, turned_in, turned_out
from limbtables.standings import Standing
from limbtables.tables import left_beside, to_nought
from reckoned import beside, fields, leads, nothing_on
from samples import GROUNDS, HUGE, empty, multiplied, rank_of, sample, sample_of_rank, standing_of, table_of, told

# Points with several arrows, with several of the same ends, and without any.
PLAIN = [Drawing(1, []), Drawing(2, []), Drawing(2, [(0, 1)]), Drawing(2, [(0, 1), (0, 1)]),
         Drawing(2, [(0, 1), (0, 1), (0, 1)]), Drawing(3, [(0, 1), (2, 1)]), Drawing(3, [(1, 0), (1, 2)]),
         Drawing(3, [(2, 1), (0, 1), (2, 1), (0, 2)]), Drawing(4, [(0, 3), (1, 3), (2, 3)]),
         Drawing(5, [(4, 1), (4, 0), (4, 3), (4, 2)]), Drawing(3, [(0, 0), (0, 1), (0, 1), (2, 1)])]


def drawings(seed, count):
    yield from PLAIN
    for many, arrows in samples(seed, count):
        yield Drawing(many, arrows)


def put_aside(ground, high, tables):
    """The tables side by side, by the tests' own reckoning."""
    return (high, sum(table[1] for table in tables), [sum([table[2][k] for table in tables], []) for k in range(high)])


def put_over(ground, wide, tables):
    """The tables one over another."""
    rows = [row for table in tables for row in table[2]]
    return (len(rows), wide, rows)


def at_point(standing, point):
    return [table for arrow, table in zip(standing.drawing.arrows, standing.tables) if point in arrow]


def into(standing, point):
    return put_aside(standing.ground, standing.sizes[point], at_point(standing, point))


def out_of(standing, point):
    return put_over(standing.ground, standing.sizes[point], at_point(standing, point))


class Turned(unittest.TestCase):
    def each(self, seed, count=40, most=3):
        chance = random.Random(seed)
        for ground in GROUNDS:
            for drawing in drawings(seed, count):
                standing = standing_of(ground, chance, drawing, most)
                for point in range(drawing.many):
                    yield standing, point

    def elsewhere_the_same(self, standing, point, found):
        drawing = standing.drawing
        self.assertIs(type(found), Standing)
        self.assertEqual(found.ground.prime, standing.ground.prime)
        self.assertEqual(found.drawing.many, drawing.many)
        self.assertEqual(found.drawing.arrows, [arrow[::-1] if point in arrow else arrow for arrow in drawing.arrows])
        for at, arrow in enumerate(drawing.arrows):
            if point not in arrow:
                self.assertEqual(found.tables[at], standing.tables[at])
        for other in range(drawing.many):
            if other != point:
                self.assertEqual(found.sizes[other], standing.sizes[other])

    def test_at_wells(self):
        turned = 0
        for standing, point in self.each(1):
            if not standing.drawing.is_well(point):
                continue
            turned += 1
            ground = standing.ground
            found = turned_in(standing, point)
            self.elsewhere_the_same(standing, point, found)
            old, new = into(standing, point), out_of(found, point)
            self.assertEqual(new[0], old[1])
            self.assertEqual(found.sizes[point], old[1] - rank_of(ground, old))
            self.assertEqual(multiplied(ground, old, new), empty(ground, old[0], new[1]))
            self.assertEqual(rank_of(ground, new), new[1])
            self.assertEqual(new[:2], to_nought(ground, old)[:2])
        self.assertGreater(turned, 300)

    def test_at_springs(self):
        turned = 0
        for standing, point in self.each(2):
            if not standing.drawing.is_spring(point):
                continue
            turned += 1
            ground = standing.ground
            found = turned_out(standing, point)
            self.elsewhere_the_same(standing, point, found)
            old, new = out_of(standing, point), into(found, point)
            self.assertEqual(new[1], old[0])
            self.assertEqual(found.sizes[point], old[0] - rank_of(ground, old))
            self.assertEqual(multiplied(ground, new, old), empty(ground, new[0], old[1]))
            self.assertEqual(rank_of(ground, new), new[0])
            self.assertEqual(new[:2], left_beside(ground, old)[:2])
        self.assertGreater(turned, 300)

    def test_order_of_the_arrows(self):
        """Two arrows into one well from tails of unlike sizes, and again the other way about."""
        two = Ground(2)
        for arrows, tables in [([(0, 2), (1, 2)], [(1, 1, [[1]]), (1, 2, [[0, 1]])]),
                               ([(1, 2), (0, 2)], [(1, 2, [[0, 1]]), (1, 1, [[1]])])]:
            standing = Standing(two, Drawing(3, arrows), [1, 2, 1], tables)
            found = turned_in(standing, 2)
            self.assertEqual(found.sizes, [1, 2, 2])
            ends = {arrow: table for arrow, table in zip(found.drawing.arrows, found.tables)}
            # What is taken to nought: the one's number is the other one's second number.
            self.assertEqual(ends[(2, 0)][2][0], ends[(2, 1)][2][1])

    def test_of_a_point_without_arrows(self):
        for ground in GROUNDS:
            for sizes in ([3, 2], [0, 2]):
                standing = nothing_on(ground, Drawing(2, []), sizes)
                for turn in (turned_in, turned_out):
                    self.assertEqual(turn(standing, 0).sizes, [0, 2])
                    self.assertEqual(turn(standing, 0).tables, [])

    def test_of_sizes_nought(self):
        for ground in GROUNDS:
            arrow = Drawing(2, [(0, 1)])
            self.assertEqual(fields(turned_in(nothing_on(ground, arrow, [3, 0]), 1))[3:],
                             ([3, 3], [(3, 3, turned_in(nothing_on(ground, arrow, [3, 0]), 1).tables[0][2])]))
            self.assertEqual(turned_in(nothing_on(ground, arrow, [0, 3]), 1).sizes, [0, 0])
            self.assertEqual(turned_in(nothing_on(ground, arrow, [0, 3]), 1).tables, [(0, 0, [])])
            self.assertEqual(turned_out(nothing_on(ground, arrow, [3, 0]), 0).sizes, [0, 0])
            self.assertEqual(turned_out(nothing_on(ground, arrow, [0, 3]), 0).sizes, [3, 3])
            self.assertEqual(turned_in(nothing_on(ground, arrow, [0, 0]), 1).tables, [(0, 0, [])])

    def test_large_ones(self):
        chance = random.Random(7)
        for ground in GROUNDS:
            standing = Standing(ground, Drawing(2, [(0, 1)]), [24, 16], [sample_of_rank(ground, chance, 16, 24, 11)])
            size = 24 - rank_of(ground, standing.tables[0])
            self.assertEqual(turned_in(standing, 1).sizes, [24, size])
            self.assertEqual(turned_out(standing, 0).sizes, [16 - (24 - size), 16])
        ground = Ground(0)
        rows = [[(chance.randint(-HUGE, HUGE), 1) for _ in range(6)] for _ in range(4)]
        standing = Standing(ground, Drawing(2, [(0, 1)]), [6, 4], [(4, 6, rows)])
        found = turned_in(standing, 1)
        self.assertEqual(multiplied(ground, standing.tables[0], found.tables[0]), empty(ground, 4, 2))

    def test_refused(self):
        for many, arrows in list(samples(5, 80)) + [(1, [(0, 0)]), (2, [(0, 0), (0, 1)]), (2, [(0, 1), (1, 1)])]:
            drawing = Drawing(many, arrows)
            standing = standing_of(Ground(3), random.Random(5), drawing)
            for point in range(many):
                well = all(tail != point for tail, head in arrows)
                spring = all(head != point for tail, head in arrows)
                for deed, due in ((turned_in, well), (forth_and_back, well), (turned_out, spring),
                                  (back_and_forth, spring)):
                    if due:
                        deed(standing, point)
                    else:
                        with self.assertRaises(NoMirror) as caught:
                            deed(standing, point)
                        self.assertIsInstance(caught.exception, LimbError)

    def test_refused_at_a_point_with_an_arrow_to_itself(self):
        for ground in GROUNDS:
            for size in (0, 1, 2):
                standing = nothing_on(ground, Drawing(1, [(0, 0)]), [size])
                for deed in (turned_in, turned_out, forth_and_back, back_and_forth):
                    with self.assertRaises(NoMirror):
                        deed(standing, 0)


class Single(unittest.TestCase):
    def test_single(self):
        for ground in GROUNDS:
            for drawing in drawings(3, 30):
                for point in range(drawing.many):
                    found = single(ground, drawing, point)
                    sizes = [int(other == point) for other in range(drawing.many)]
                    self.assertEqual(fields(found), fields(nothing_on(ground, drawing, sizes)))

    def test_at_a_point_with_an_arrow_to_itself(self):
        for ground in GROUNDS:
            found = single(ground, Drawing(2, [(1, 1), (0, 1)]), 1)
            self.assertEqual(found.tables, [(1, 1, [[told(ground, 0)]]), (1, 0, [[]])])


class ForthAndBack(unittest.TestCase):
    def each(self, seed):
        chance = random.Random(seed)
        for ground in GROUNDS:
            for drawing in drawings(seed, 40):
                standing = standing_of(ground, chance, drawing)
                for point in range(drawing.many):
                    yield standing, point

    def check(self, standing, point, found, rank):
        self.assertIs(type(found), tuple)
        turned, home, many, changes = found
        ground, drawing = standing.ground, standing.drawing
        self.assertEqual(turned.drawing.arrows, drawing.turned(point).arrows)
        self.assertEqual((home.drawing.many, home.drawing.arrows), (drawing.many, drawing.arrows))
        self.assertEqual((turned.ground.prime, home.ground.prime), (ground.prime, ground.prime))
        self.assertIs(type(many), int)
        self.assertEqual(many, standing.sizes[point] - rank)
        self.assertEqual(home.sizes[point], rank)
        sizes, tables = beside(ground, drawing, [home] + [single(ground, drawing, point)] * many)
        self.assertTrue(leads(standing, changes, sizes, tables))
        return many

    def test_at_wells(self):
        split = []
        for standing, point in self.each(11):
            if standing.drawing.is_well(point):
                found = forth_and_back(standing, point)
                split.append(self.check(standing, point, found, rank_of(standing.ground, into(standing, point))))
                self.assertEqual(fields(found[0]), fields(turned_in(standing, point)))
                self.assertEqual(found[1].sizes, turned_out(found[0], point).sizes)
        self.assertTrue(split.count(0) > 50 and len(split) - split.count(0) > 50)

    def test_at_springs(self):
        split = []
        for standing, point in self.each(12):
            if standing.drawing.is_spring(point):
                found = back_and_forth(standing, point)
                split.append(self.check(standing, point, found, rank_of(standing.ground, out_of(standing, point))))
                self.assertEqual(fields(found[0]), fields(turned_out(standing, point)))
                self.assertEqual(found[1].sizes, turned_in(found[0], point).sizes)
        self.assertTrue(split.count(0) > 50 and len(split) - split.count(0) > 50)

    def test_of_a_point_without_arrows(self):
        for ground in GROUNDS:
            standing = nothing_on(ground, Drawing(2, []), [3, 2])
            for deed in (forth_and_back, back_and_forth):
                turned, home, many, changes = deed(standing, 0)
                self.assertEqual((turned.sizes, home.sizes, many), ([0, 2], [0, 2], 3))
                self.check(standing, 0, (turned, home, many, changes), 0)

    def test_nothing_split_off(self):
        chance = random.Random(13)
        for ground in GROUNDS:
            rows = [[int(i == j) for j in range(5)] for i in range(3)]
            standing = Standing(ground, Drawing(2, [(0, 1)]), [5, 3], [table_of(ground, 3, 5, rows)])
            self.assertEqual(self.check(standing, 1, forth_and_back(standing, 1), 3), 0)
            standing = Standing(ground, Drawing(2, [(1, 0)]), [5, 3],
                                [table_of(ground, 5, 3, [list(column) for column in zip(*rows)])])
            self.assertEqual(self.check(standing, 1, back_and_forth(standing, 1), 3), 0)

    def test_all_split_off(self):
        for ground in GROUNDS:
            for sizes in ([4, 3], [0, 3], [3, 0], [0, 0]):
                standing = nothing_on(ground, Drawing(2, [(0, 1)]), sizes)
                self.assertEqual(self.check(standing, 1, forth_and_back(standing, 1), 0), sizes[1])
                self.assertEqual(self.check(standing, 0, back_and_forth(standing, 0), 0), sizes[0])

    def test_large_ones(self):
        chance = random.Random(14)
        for ground in GROUNDS:
            standing = Standing(ground, Drawing(3, [(0, 1), (2, 1)]), [12, 16, 12],
                                [sample_of_rank(ground, chance, 16, 12, 5), sample(ground, chance, 16, 12)])
            self.check(standing, 1, forth_and_back(standing, 1), rank_of(ground, into(standing, 1)))
            self.check(standing, 0, back_and_forth(standing, 0), rank_of(ground, out_of(standing, 0)))


if __name__ == "__main__":
    unittest.main()
