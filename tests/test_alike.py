"""Standings that are alike, or parted [24], [3]."""

import random
import unittest

from drawn import KINDLESS, moved, row, star
from limbtables.alike import leading, parting
from limbtables.apart import counts
from limbtables.drawings import Drawing
from limbtables.errors import LimbError, NoKind, NoStanding
from limbtables.grounds import Ground
from limbtables.parts import part_of
from limbtables.roots import roots
from limbtables.standings import Standing, changed, count_maps, side_of
from reckoned import good_drawings, leads, maps_counted, nothing_on
from samples import GROUNDS, HUGE, sample_changes, sample_tables, standing_of, table_of


class Alike(unittest.TestCase):
    def alike(self, one, other):
        changes = leading(one, other)
        self.assertIs(type(changes), list)
        self.assertTrue(leads(one, changes, other.sizes, other.tables))
        self.assertIsNone(parting(one, other))

    def parted(self, one, other):
        self.assertIsNone(leading(one, other))
        found = parting(one, other)
        self.assertIs(type(found), tuple)
        root, ones, others = found
        self.assertIn(root, roots(one.drawing))
        self.assertNotEqual(ones, others)
        part = part_of(one.ground, one.drawing, root)
        self.assertEqual((count_maps(part, one), count_maps(part, other)), (ones, others))
        if sum(one.sizes) + sum(other.sizes) + sum(root) < 16:
            self.assertEqual((maps_counted(part, one), maps_counted(part, other)), (ones, others))

    def either(self, one, other):
        """Whichever is due: by the counts."""
        for a, b in ((one, other), (other, one)):
            if counts(a) == counts(b):
                self.alike(a, b)
            else:
                self.parted(a, b)
        return counts(one) == counts(other)

    def test_led_by_changes(self):
        chance = random.Random(1)
        for drawing in good_drawings(1, 32):
            for ground in (Ground(0), Ground(chance.choice([2, 3, 97]))):
                one = standing_of(ground, chance, drawing)
                other = changed(one, sample_changes(ground, chance, one))
                self.alike(one, other)
                self.alike(other, one)
                self.alike(one, one)

    def test_same_sizes(self):
        chance = random.Random(2)
        found = []
        for drawing in good_drawings(2, 32):
            for ground in (Ground(0), Ground(chance.choice([2, 3, 97]))):
                one = standing_of(ground, chance, drawing)
                other = Standing(ground, drawing, one.sizes, sample_tables(ground, chance, drawing, one.sizes))
                found.append(self.either(one, other))
        self.assertTrue(found.count(True) > 10 and found.count(False) > 10)

    def test_other_sizes(self):
        chance = random.Random(3)
        for drawing in good_drawings(3, 32):
            for ground in (Ground(0), Ground(chance.choice([2, 3, 97]))):
                one, other = standing_of(ground, chance, drawing), standing_of(ground, chance, drawing)
                if one.sizes != other.sizes:
                    self.parted(one, other)
                    self.parted(other, one)

    def test_of_sizes_nought(self):
        for drawing in good_drawings(4, 16):
            for ground in GROUNDS:
                none = nothing_on(ground, drawing, [0] * drawing.many)
                self.alike(none, nothing_on(ground, drawing, [0] * drawing.many))
                one = nothing_on(ground, drawing, [1] + [0] * (drawing.many - 1))
                self.parted(none, one)
                self.parted(one, none)

    def test_each_part_from_all_the_others(self):
        for many, arrows in (row(3), star(1, 1, 1), (3, [(0, 1)])):
            drawing = Drawing(many, moved(random.Random(5), many, arrows))
            for ground in (Ground(0), Ground(2)):
                parts = [part_of(ground, drawing, root) for root in roots(drawing)]
                for one in parts:
                    for other in parts:
                        self.assertEqual(self.either(one, other), one.sizes == other.sizes)

    def test_sums_that_are_counted_alike_but_at_one_root(self):
        """The sizes of two parts are those of a third one, or of two others."""
        drawing = Drawing(3, [(0, 1), (1, 2)])
        for ground in GROUNDS:
            def whole(*chosen):
                return side_of(ground, drawing, [part_of(ground, drawing, list(root)) for root in chosen])
            self.parted(whole((1, 1, 1), (0, 1, 0)), whole((1, 1, 0), (0, 1, 1)))
            self.parted(whole((1, 1, 1)), whole((1, 0, 0), (0, 1, 1)))
            self.parted(whole((1, 1, 1)), whole((1, 1, 0), (0, 0, 1)))
            self.parted(whole((1, 1, 1)), nothing_on(ground, drawing, [1, 1, 1]))
            self.alike(whole((1, 1, 1), (0, 1, 0)), whole((0, 1, 0), (1, 1, 1)))

    def test_three_lines(self):
        drawing = Drawing(4, [(0, 3), (1, 3), (2, 3)])
        for ground in GROUNDS:
            lines = [table_of(ground, 2, 1, column) for column in ([[1], [0]], [[0], [1]], [[1], [1]])]
            unlike = Standing(ground, drawing, [1, 1, 1, 2], lines)
            self.alike(unlike, Standing(ground, drawing, [1, 1, 1, 2], [lines[2], lines[0], lines[1]]))
            self.parted(unlike, Standing(ground, drawing, [1, 1, 1, 2], [lines[0], lines[1], lines[1]]))

    def test_sizes_that_come_to_forty(self):
        chance = random.Random(6)
        for many, arrows in (row(8), star(1, 1, 1), star(1, 2, 4)):
            for prime in (0, 2):
                ground = Ground(prime)
                drawing = Drawing(many, moved(chance, many, arrows))
                sizes = [40 // many] * many
                one = Standing(ground, drawing, sizes, sample_tables(ground, chance, drawing, sizes))
                self.alike(one, changed(one, sample_changes(ground, chance, one)))
                self.either(one, Standing(ground, drawing, sizes, sample_tables(ground, chance, drawing, sizes)))

    def test_numbers_of_thirty_figures(self):
        chance = random.Random(7)
        ground = Ground(0)
        drawing = Drawing(3, [(0, 1), (2, 1)])

        def large():
            tables = [(2, 2, [[ground.number(chance.randint(-HUGE, HUGE), chance.randint(1, HUGE)) for _ in range(2)]
                              for _ in range(2)]) for _ in range(2)]
            return Standing(ground, drawing, [2, 2, 2], tables)
        self.alike(large(), large())


class Refused(unittest.TestCase):
    def refused(self, one, other, error):
        for deed in (leading, parting):
            for pair in ((one, other), (other, one)):
                with self.assertRaises(error) as caught:
                    deed(*pair)
                self.assertIsInstance(caught.exception, LimbError)

    def test_of_unlike_ground_or_drawing(self):
        row_of_three = Drawing(3, [(0, 1), (2, 1)])
        two, three = Ground(2), Ground(3)
        one = nothing_on(two, row_of_three, [0, 0, 0])
        self.refused(one, nothing_on(three, row_of_three, [0, 0, 0]), NoStanding)
        self.refused(one, nothing_on(Ground(0), row_of_three, [0, 0, 0]), NoStanding)
        for drawing in (Drawing(3, [(2, 1), (0, 1)]), Drawing(3, [(0, 1), (1, 2)]), Drawing(3, [(0, 1)]),
                        Drawing(4, [(0, 1), (2, 1)]), Drawing(2, [(0, 1)])):
            self.refused(one, nothing_on(two, drawing, [0] * drawing.many), NoStanding)

    def test_also_where_a_drawing_is_not_good(self):
        ring, other_ring = Drawing(2, [(0, 1), (1, 0)]), Drawing(2, [(0, 1), (0, 1)])
        two, three = Ground(2), Ground(3)
        one = nothing_on(two, ring, [1, 1])
        self.refused(one, nothing_on(three, ring, [1, 1]), NoStanding)
        self.refused(one, nothing_on(two, other_ring, [1, 1]), NoStanding)
        self.refused(one, nothing_on(two, Drawing(2, [(0, 1)]), [1, 1]), NoStanding)

    def test_of_a_drawing_that_is_not_good(self):
        chance = random.Random(8)
        for many, arrows in KINDLESS + [(4, [(0, 1), (2, 3), (2, 3)])]:
            drawing = Drawing(many, moved(chance, many, arrows))
            for ground in (Ground(0), Ground(2)):
                one, other = standing_of(ground, chance, drawing), standing_of(ground, chance, drawing)
                self.refused(one, other, NoKind)
                self.refused(one, one, NoKind)
                self.refused(one, Standing(Ground(ground.prime), Drawing(many, list(drawing.arrows)), one.sizes,
                                           one.tables), NoKind)


class LikeByValue(unittest.TestCase):
    def test_other_objects_of_one_ground_and_drawing(self):
        """Grounds and drawings are held against one another by what they are, not as objects."""
        chance = random.Random(9)
        for ground in GROUNDS:
            one = standing_of(ground, chance, Drawing(3, [(0, 1), (2, 1)]))
            other = Standing(Ground(ground.prime), Drawing(3, [(0, 1), (2, 1)]), one.sizes, one.tables)
            self.assertTrue(leads(one, leading(one, other), other.sizes, other.tables))
            self.assertIsNone(parting(one, other))


if __name__ == "__main__":
    unittest.main()
