"""Mirrors of rows, and roots [14], [15]."""

import itertools
import random
import unittest

from drawn import KINDLESS, KINDS, moved, row, samples, several, star
from limbtables.drawings import Drawing
from limbtables.errors import LimbError, NoKind
from limbtables.forms import worth
from limbtables.roots import mirrored, roots
from samples import HUGE

EXCEPTIONAL = {6: 36, 7: 63, 8: 120}
# The greatest number that any root of a kind of at most seven points has.
GREATEST = {"A": 1, "D": 2, "E": 4}


def due_count(kind):
    name, many = kind
    if name == "A":
        return many * (many + 1) // 2
    return many * (many - 1) if name == "D" else EXCEPTIONAL[many]


def without_loops(seed, count):
    for many, arrows in samples(seed, count):
        yield many, [arrow for arrow in arrows if arrow[0] != arrow[1]]


class Mirrors(unittest.TestCase):
    def test_written_ones(self):
        for many, arrows, point, one, due in [
                (1, [], 0, [3], [-3]), (2, [(0, 1)], 0, [1, 0], [-1, 0]), (2, [(0, 1)], 1, [1, 0], [1, 1]),
                (2, [(0, 1)], 0, [0, 1], [1, 1]), (2, [(0, 1)], 1, [1, 1], [1, 0]), (2, [], 1, [5, 7], [5, -7]),
                (2, [(0, 1)] * 3, 1, [2, 1], [2, 5]), (2, [(0, 1), (1, 0)], 0, [1, 4], [7, 4]),
                (4, [(0, 1), (2, 0), (0, 3)], 0, [1, 1, 1, 1], [2, 1, 1, 1]),
                (4, [(0, 1), (2, 0), (0, 3)], 2, [2, 1, 1, 1], [2, 1, 1, 1]),
                (3, [(0, 1), (1, 2), (0, 1)], 1, [-5, 1, HUGE], [-5, HUGE - 11, HUGE])]:
            self.assertEqual(mirrored(Drawing(many, arrows), point, one), due)

    def test_each_point_of_all_sorts(self):
        chance = random.Random(1)
        for many, arrows in list(without_loops(1, 300)) + [given for _, given in KINDS]:
            drawing = Drawing(many, arrows)
            for most in (3, HUGE):
                one = [chance.randint(-most, most) for _ in range(many)]
                for point in range(many):
                    found = mirrored(drawing, point, one)
                    near = sum(one[head] for tail, head in arrows if tail == point)
                    near += sum(one[tail] for tail, head in arrows if head == point)
                    self.assertEqual(found, one[:point] + [near - one[point]] + one[point + 1:])
                    self.assertEqual(mirrored(drawing, point, found), one)
                    self.assertEqual(worth(drawing, found), worth(drawing, one))

    def test_whichever_way_arrows_point(self):
        chance = random.Random(2)
        for many, arrows in without_loops(2, 100):
            turned = [arrow[::chance.choice((1, -1))] for arrow in arrows]
            one = [chance.randint(-9, 9) for _ in range(many)]
            for point in range(many):
                self.assertEqual(mirrored(Drawing(many, arrows), point, one),
                                 mirrored(Drawing(many, turned), point, one))

    def test_row_told_is_a_new_one(self):
        drawing = Drawing(4, [(0, 1), (2, 0), (0, 3)])
        one = [2, 1, 1, 1]
        found = mirrored(drawing, 2, one)
        self.assertEqual(found, one)
        self.assertIsNot(found, one)


class Roots(unittest.TestCase):
    def assert_roots(self, drawing, count):
        found = roots(drawing)
        self.assertIsInstance(found, list)
        self.assertEqual(len(found), count)
        self.assertEqual(found, sorted(found))
        self.assertEqual(len({tuple(root) for root in found}), count)
        for root in found:
            self.assertIsInstance(root, list)
            self.assertEqual(len(root), drawing.many)
            self.assertTrue(all(number.__class__ is int and number >= 0 for number in root))
            self.assertEqual(worth(drawing, root), 1)
        return found

    def test_each_kind_by_its_number(self):
        chance = random.Random(3)
        for kind, (many, arrows) in KINDS:
            self.assert_roots(Drawing(many, arrows), due_count(kind))
            for _ in range(3):
                self.assert_roots(Drawing(many, moved(chance, many, arrows)), due_count(kind))

    def test_numbers_as_written(self):
        self.assertEqual([len(roots(Drawing(*star(1, 2, n)))) for n in (2, 3, 4)], [36, 63, 120])
        self.assertEqual([len(roots(Drawing(*star(1, 1, n)))) for n in (1, 2, 3, 4, 5)], [12, 20, 30, 42, 56])
        self.assertEqual([len(roots(Drawing(*row(n)))) for n in range(1, 9)], [1, 3, 6, 10, 15, 21, 28, 36])

    def test_rows_by_hand(self):
        self.assertEqual(roots(Drawing(1, [])), [[1]])
        self.assertEqual(roots(Drawing(2, [])), [[0, 1], [1, 0]])
        self.assertEqual(roots(Drawing(2, [(1, 0)])), [[0, 1], [1, 0], [1, 1]])
        self.assertEqual(roots(Drawing(3, [(0, 2)])), [[0, 0, 1], [0, 1, 0], [1, 0, 0], [1, 0, 1]])
        self.assertEqual(roots(Drawing(4, [(0, 1), (0, 2), (3, 0)])),
                         [[0, 0, 0, 1], [0, 0, 1, 0], [0, 1, 0, 0], [1, 0, 0, 0], [1, 0, 0, 1], [1, 0, 1, 0],
                          [1, 0, 1, 1], [1, 1, 0, 0], [1, 1, 0, 1], [1, 1, 1, 0], [1, 1, 1, 1], [2, 1, 1, 1]])

    def test_rows_of_ones(self):
        for many in range(1, 9):
            due = sorted([int(first <= k <= last) for k in range(many)]
                         for first in range(many) for last in range(first, many))
            self.assertEqual(roots(Drawing(*row(many))), due)

    def test_none_left_out(self):
        chance = random.Random(4)
        for (name, many), (size, arrows) in KINDS:
            if many > 7:
                continue
            drawing = Drawing(size, moved(chance, size, arrows))
            # One more than the greatest is tried too, of drawings that are small enough.
            most = GREATEST[name] + (1 if many < 7 else 0)
            due = [list(one) for one in itertools.product(range(most + 1), repeat=many) if worth(drawing, one) == 1]
            self.assertEqual(roots(drawing), due)

    def test_none_left_out_of_several_pieces(self):
        chance = random.Random(5)
        for pieces in [[row(1), row(1), row(1)], [row(2), row(3)], [star(1, 1, 1), row(1)], [row(1), row(2), row(2)],
                       [star(1, 1, 1), row(2)], [row(3), row(3)]]:
            drawing = Drawing(*several(chance, pieces))
            due = [list(one) for one in itertools.product(range(4), repeat=drawing.many) if worth(drawing, one) == 1]
            self.assertEqual(roots(drawing), due)

    def test_several_pieces_by_their_numbers(self):
        chance = random.Random(6)
        for (kind, given), (other_kind, other) in itertools.combinations_with_replacement(KINDS, 2):
            if given[0] + other[0] <= 8:
                drawing = Drawing(*several(chance, [given, other]))
                for root in self.assert_roots(drawing, due_count(kind) + due_count(other_kind)):
                    at = {k for k, number in enumerate(root) if number}
                    self.assertTrue(any(at <= set(piece) for piece in drawing.pieces()))
        self.assert_roots(Drawing(8, []), 8)

    def test_greatest_root_of_eight_points(self):
        many, arrows = star(1, 2, 4)
        self.assertIn([6, 3, 4, 2, 5, 4, 3, 2], roots(Drawing(many, arrows)))
        self.assertEqual(max(sum(root) for root in roots(Drawing(many, arrows))), 29)

    def test_each_comes_of_a_row_with_one_alone_by_mirrors(self):
        chance = random.Random(7)
        for _, (many, arrows) in KINDS:
            drawing = Drawing(many, moved(chance, many, arrows))
            found = roots(drawing)
            for root in found:
                while sum(root) > 1:
                    lower = [mirrored(drawing, point, root) for point in range(many)]
                    root = min(lower, key=sum)
                    self.assertIn(root, found)

    def test_not_good_is_refused(self):
        chance = random.Random(8)
        for many, arrows in KINDLESS:
            with self.assertRaises(NoKind) as caught:
                roots(Drawing(many, arrows))
            self.assertIsInstance(caught.exception, LimbError)
            if len(arrows) + 7 - many <= 9 and many < 8:
                with self.assertRaises(NoKind):
                    roots(Drawing(*several(chance, [(many, arrows), row(8 - many)])))


if __name__ == "__main__":
    unittest.main()
