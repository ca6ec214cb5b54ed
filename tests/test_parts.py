"""Plain parts [22], [3]."""

import random
import unittest

from drawn import KINDLESS, KINDS, moved, row, several, star
from limbtables.drawings import Drawing
from limbtables.errors import LimbError, NoKind, NoRoot
from limbtables.grounds import Ground
from limbtables.parts import part_of
from limbtables.roots import roots
from limbtables.standings import Standing, count_maps
from reckoned import good_drawings, maps_counted
from samples import GROUNDS, HUGE

SMALL = [shape for kind, shape in KINDS if shape[0] <= 6]


class Parts(unittest.TestCase):
    def check(self, ground, drawing, root):
        found = part_of(ground, drawing, root)
        self.assertIs(type(found), Standing)
        self.assertEqual(found.ground.prime, ground.prime)
        self.assertEqual((found.drawing.many, found.drawing.arrows), (drawing.many, drawing.arrows))
        self.assertEqual(found.sizes, root)
        self.assertEqual(count_maps(found, found), 1)
        return found

    def test_each_root_of_small_kinds(self):
        chance = random.Random(1)
        for ground in GROUNDS:
            for many, arrows in SMALL:
                drawing = Drawing(many, moved(chance, many, arrows))
                for root in roots(drawing):
                    found = self.check(ground, drawing, root)
                    if sum(root) <= 5:
                        self.assertEqual(maps_counted(found, found), 1)

    def test_each_root_of_large_kinds(self):
        chance = random.Random(2)
        for kind, (many, arrows) in KINDS:
            if many > 6:
                drawing = Drawing(many, moved(chance, many, arrows))
                ground = chance.choice([Ground(2), Ground(0), Ground(97)])
                for root in roots(drawing):
                    self.check(ground, drawing, root)

    def test_largest_root(self):
        chance = random.Random(3)
        for many, arrows in (star(1, 2, 4), star(1, 2, 3), star(1, 1, 5)):
            for ground in GROUNDS:
                drawing = Drawing(many, moved(chance, many, arrows))
                self.check(ground, drawing, max(roots(drawing), key=sum))

    def test_each_way_of_the_arrows(self):
        """All ways that the arrows of small drawings may point, the largest roots."""
        for many, arrows in (row(3), star(1, 1, 1), star(1, 1, 2)):
            for ways in range(2 ** len(arrows)):
                pointed = [arrow if ways >> at & 1 else arrow[::-1] for at, arrow in enumerate(arrows)]
                drawing = Drawing(many, pointed)
                for ground in (Ground(0), Ground(2), Ground(3)):
                    for root in sorted(roots(drawing), key=sum)[-3:]:
                        self.assertEqual(maps_counted(*[self.check(ground, drawing, root)] * 2), 1)

    def test_of_several_pieces(self):
        chance = random.Random(4)
        for pieces in ([row(1), row(1)], [row(2), row(3)], [star(1, 1, 1), row(2), row(1)], [star(1, 1, 2), row(3)],
                       [star(1, 2, 2), row(2)], [row(1)] * 8):
            drawing = Drawing(*several(chance, pieces))
            for ground in (Ground(0), Ground(2), Ground(5)):
                for root in roots(drawing):
                    self.check(ground, drawing, root)

    def test_ones_and_twos(self):
        """Where each size is 0 or 1 no table between ones is nought; of D4's largest root three lines are unlike."""
        for ground in GROUNDS:
            found = part_of(ground, Drawing(3, [(0, 1), (2, 1)]), [1, 1, 1])
            self.assertTrue(all(table[2][0][0] != ground.number(0) for table in found.tables))
            found = part_of(ground, Drawing(4, [(0, 3), (1, 3), (2, 3)]), [1, 1, 1, 2])
            lines = [[row[0] for row in table[2]] for table in found.tables]
            for a, b in ((0, 1), (0, 2), (1, 2)):
                one, other = lines[a], lines[b]
                self.assertNotEqual(ground.times(one[0], other[1]), ground.times(one[1], other[0]))


class NoRoots(unittest.TestCase):
    def refused(self, drawing, root, error):
        for ground in (Ground(0), Ground(2)):
            before = repr(root)
            with self.subTest(before), self.assertRaises(error) as caught:
                part_of(ground, drawing, root)
            self.assertIsInstance(caught.exception, LimbError)
            self.assertEqual(repr(root), before)

    def test_rows_that_are_no_root(self):
        drawing = Drawing(3, [(0, 1), (2, 1)])
        for root in [[0, 0, 0], [2, 0, 0], [0, 2, 0], [1, 0, 1], [1, 2, 1], [2, 2, 2], [1, 1, 2], [-1, 0, 0],
                     [-1, -1, 0], [0, -1, -1], [1, -1, 0], [1, 1], [1, 1, 1, 0], [1, 0, 0, 0], [1], [], [1] * 9,
                     [HUGE, HUGE, 0], [HUGE, 0, 0], [-HUGE, 0, 0], [0, 0, -1]]:
            self.refused(drawing, root, NoRoot)

    def test_truths(self):
        drawing = Drawing(3, [(0, 1), (2, 1)])
        for root in [[True, 0, 0], [1, True, 1], [1, False, False], [1, 0, False], [True, True, True], [1, 1, True],
                     [False, 1, 1], [True]]:
            self.refused(drawing, root, NoRoot)
        self.refused(Drawing(1, []), [True], NoRoot)
        self.refused(Drawing(1, []), [False], NoRoot)

    def test_every_small_row(self):
        """Of all rows of numbers from -1 to 2 just the roots are taken."""
        for many, arrows in (row(3), star(1, 1, 1)):
            drawing = Drawing(many, arrows)
            due = roots(drawing)
            for number in range(4 ** many):
                root = [number // 4 ** k % 4 - 1 for k in range(many)]
                if root in due:
                    self.assertEqual(part_of(Ground(2), drawing, root).sizes, root)
                else:
                    self.refused(drawing, root, NoRoot)

    def test_roots_of_other_drawings(self):
        self.refused(Drawing(3, [(0, 1)]), [1, 1, 1], NoRoot)
        self.refused(Drawing(2, []), [1, 1], NoRoot)
        self.refused(Drawing(4, [(0, 1), (1, 2), (2, 3)]), [1, 1, 1, 2], NoRoot)

    def test_drawings_that_are_not_good(self):
        chance = random.Random(5)
        for many, arrows in KINDLESS:
            drawing = Drawing(many, moved(chance, many, arrows))
            for root in [[1] + [0] * (many - 1), [0] * many, [1] * many, [True] + [0] * (many - 1), [], [-1] * many,
                         [2] * (many + 1)]:
                self.refused(drawing, root, NoKind)

    def test_a_good_piece_beside_one_that_is_not(self):
        drawing = Drawing(4, [(0, 1), (2, 3), (2, 3)])
        self.refused(drawing, [1, 1, 0, 0], NoKind)
        self.refused(drawing, [7, 1, 0], NoKind)


class AsManyAsRoots(unittest.TestCase):
    def test_no_two_are_alike(self):
        """Plain parts of unlike roots: there and back, no map and then another one is a number but nought."""
        for drawing in good_drawings(6, 12, most=5):
            for ground in (Ground(0), Ground(2)):
                parts = [part_of(ground, drawing, root) for root in roots(drawing)]
                self.assertEqual(len({tuple(part.sizes) for part in parts}), len(parts))
                # Of two unlike ones maps lead one way at most.
                for one in parts[:8]:
                    for other in parts[:8]:
                        if one.sizes != other.sizes:
                            self.assertTrue(count_maps(one, other) == 0 or count_maps(other, one) == 0)


if __name__ == "__main__":
    unittest.main()
