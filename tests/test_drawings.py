"""Drawings, their pieces, turnings and kinds [8] to [11]."""

import itertools
import random
import unittest

from drawn import KINDLESS, KINDS, above_nought, moved, samples
from limbtables.drawings import Drawing
from limbtables.errors import NoDrawing
from samples import HUGE, ODD_THINGS


class Made(unittest.TestCase):
    def test_fields(self):
        for many, arrows in list(samples(1, 60)) + [given for _, given in KINDS] + KINDLESS:
            drawing = Drawing(many, arrows)
            self.assertEqual(drawing.many, many)
            self.assertEqual(drawing.arrows, arrows)
            self.assertIsInstance(drawing.arrows, list)
            self.assertTrue(all(isinstance(arrow, tuple) for arrow in drawing.arrows))

    def test_edges(self):
        for many in range(1, 9):
            Drawing(many, [])
            Drawing(many, [(many - 1, 0)] * 9)
            Drawing(many, [(many - 1, many - 1)] * 9)

    def test_number_of_points_refused(self):
        for many in [0, -1, -8, 9, 10, HUGE, -HUGE] + ODD_THINGS:
            for arrows in ([], [(0, 0)]):
                with self.subTest(repr(many)), self.assertRaises(NoDrawing):
                    Drawing(many, arrows)

    def test_too_many_arrows_refused(self):
        for length in (10, 11, 40):
            with self.assertRaises(NoDrawing):
                Drawing(2, [(0, 1)] * length)

    def test_arrows_that_are_no_list_refused(self):
        for arrows in [None, True, 0, 1, "", "01", (), ((0, 1),), (0, 1), {}, {(0, 1)}, {(0, 1): 1}]:
            with self.subTest(repr(arrows)), self.assertRaises(NoDrawing):
                Drawing(2, arrows)

    def test_things_that_are_no_arrows_refused(self):
        for arrow in [None, True, 0, "01", "", (), (0,), (0, 1, 1), [0, 1], [], (0, 2), (2, 0), (2, 2), (-1, 0),
                      (0, -1), (0, HUGE), (False, True), (0, True), (False, 1), (0, None), (None, 0), ("0", "1"), (0, "1"),
                      ((0,), 1), ((0, 1),), (0, [1]), ([0], 1), [(0, 1)], {0, 1}, {0: 1, 1: 0}]:
            for arrows in ([arrow], [(0, 1), arrow], [arrow, (1, 0)]):
                with self.subTest(repr(arrows)), self.assertRaises(NoDrawing):
                    Drawing(2, arrows)
        for many in range(1, 9):
            for arrow in [(many, 0), (0, many)]:
                with self.assertRaises(NoDrawing):
                    Drawing(many, [arrow])


class Pieces(unittest.TestCase):
    def test_written_ones(self):
        for many, arrows, due in [
                (1, [], [[0]]), (3, [], [[0], [1], [2]]), (1, [(0, 0)], [[0]]), (3, [(2, 0)], [[0, 2], [1]]),
                (4, [(3, 1), (2, 0)], [[0, 2], [1, 3]]), (5, [(4, 3), (3, 0), (2, 2)], [[0, 3, 4], [1], [2]]),
                (4, [(0, 3), (1, 3), (2, 3)], [[0, 1, 2, 3]]), (3, [(1, 2), (1, 2), (2, 1)], [[0], [1, 2]]),
                (6, [(5, 4), (3, 2), (1, 0), (4, 3), (2, 1)], [[0, 1, 2, 3, 4, 5]]),
                (8, [(0, 7), (1, 6), (2, 5), (3, 4)], [[0, 7], [1, 6], [2, 5], [3, 4]])]:
            self.assertEqual(Drawing(many, arrows).pieces(), due)

    def test_against_walks(self):
        for many, arrows in samples(2, 300):
            found = Drawing(many, arrows).pieces()
            self.assertEqual(sorted(point for piece in found for point in piece), list(range(many)))
            self.assertEqual(found, sorted(sorted(piece) for piece in found))
            for piece in found:
                for point in piece:
                    self.assertEqual(self.walked(point, arrows), set(piece))

    def walked(self, start, arrows):
        seen, waiting = {start}, [start]
        while waiting:
            point = waiting.pop()
            for tail, head in arrows:
                for here, there in ((tail, head), (head, tail)):
                    if here == point and there not in seen:
                        seen.add(there)
                        waiting.append(there)
        return seen


class WellsAndSprings(unittest.TestCase):
    def test_written_ones(self):
        drawing = Drawing(5, [(0, 1), (2, 1), (0, 2), (3, 3)])
        self.assertEqual([drawing.is_well(k) for k in range(5)], [False, True, False, False, True])
        self.assertEqual([drawing.is_spring(k) for k in range(5)], [True, False, False, False, True])

    def test_all_sorts(self):
        for many, arrows in samples(3, 200):
            drawing = Drawing(many, arrows)
            for point in range(many):
                going = any(tail == point for tail, _ in arrows)
                coming = any(head == point for _, head in arrows)
                self.assertIs(drawing.is_well(point), not going)
                self.assertIs(drawing.is_spring(point), not coming)

    def test_arrow_to_itself(self):
        drawing = Drawing(2, [(0, 0), (1, 0)])
        self.assertIs(drawing.is_well(0), False)
        self.assertIs(drawing.is_spring(0), False)
        self.assertIs(drawing.is_spring(1), True)


class Turned(unittest.TestCase):
    def test_written_one(self):
        drawing = Drawing(4, [(0, 1), (2, 1), (1, 3), (1, 1), (2, 3), (0, 1)])
        found = drawing.turned(1)
        self.assertIsInstance(found, Drawing)
        self.assertEqual((found.many, found.arrows), (4, [(1, 0), (1, 2), (3, 1), (1, 1), (2, 3), (1, 0)]))

    def test_all_sorts(self):
        for many, arrows in samples(4, 200):
            drawing = Drawing(many, arrows)
            for point in range(many):
                found = drawing.turned(point)
                due = [(head, tail) if point in (tail, head) else (tail, head) for tail, head in arrows]
                self.assertEqual((found.many, found.arrows), (many, due))
                self.assertEqual(found.turned(point).arrows, arrows)
                self.assertEqual((drawing.many, drawing.arrows), (many, arrows))
                self.assertEqual(found.is_spring(point), drawing.is_well(point))


class Kinds(unittest.TestCase):
    def test_kinds_in_any_order(self):
        chance = random.Random(5)
        for kind, (many, arrows) in KINDS:
            self.assertEqual(Drawing(many, arrows).kinds(), [kind])
            self.assertEqual(kind[1], many)
            for _ in range(40):
                self.assertEqual(Drawing(many, moved(chance, many, arrows)).kinds(), [kind])

    def test_each_arrow_either_way(self):
        for kind, (many, arrows) in KINDS:
            for turns in itertools.product((1, -1), repeat=len(arrows)):
                self.assertEqual(Drawing(many, [a[::t] for a, t in zip(arrows, turns)]).kinds(), [kind])

    def test_no_kind_in_any_order(self):
        chance = random.Random(6)
        for many, arrows in KINDLESS:
            self.assertEqual(Drawing(many, arrows).kinds(), [None], arrows)
            for _ in range(20):
                self.assertEqual(Drawing(many, moved(chance, many, arrows)).kinds(), [None])

    def test_kinds_of_several_pieces(self):
        self.assertEqual(Drawing(3, []).kinds(), [("A", 1)] * 3)
        self.assertEqual(Drawing(8, [(0, 4), (4, 5), (6, 4), (1, 2), (3, 3)]).kinds(),
                         [("D", 4), ("A", 2), None, ("A", 1)])
        self.assertEqual(Drawing(8, [(7, 1), (7, 3), (7, 5), (0, 2), (2, 4), (4, 6), (6, 0)]).kinds(),
                         [None, ("D", 4)])
        self.assertEqual(Drawing(4, [(1, 3), (3, 1), (2, 0)]).kinds(), [("A", 2), None])

    def test_tuples(self):
        found = Drawing(2, [(0, 1)]).kinds()
        self.assertIsInstance(found, list)
        self.assertIsInstance(found[0], tuple)
        self.assertEqual(found, [("A", 2)])

    def test_every_tree_of_up_to_six_points(self):
        for many in range(3, 7):
            for code in itertools.product(range(many), repeat=many - 2):
                arrows = self.tree(many, code)
                self.assertEqual(Drawing(many, arrows).kinds(), [self.due(many, arrows)])

    def test_trees_of_seven_and_eight_points(self):
        chance = random.Random(7)
        for _ in range(2000):
            many = chance.choice((7, 8))
            # Codes of few points give long arms, so that kinds turn up and not only thickets.
            points = chance.sample(range(many), chance.randint(3, many))
            arrows = self.tree(many, [chance.choice(points) for _ in range(many - 2)])
            self.assertEqual(Drawing(many, arrows).kinds(), [self.due(many, arrows)])

    def tree(self, many, code):
        """The tree that a row of points stands for (each but two points once taken off as least leaf)."""
        degrees = [1 + list(code).count(k) for k in range(many)]
        arrows = []
        for point in code:
            leaf = degrees.index(1)
            arrows.append((leaf, point))
            degrees[leaf] -= 1
            degrees[point] -= 1
        arrows.append(tuple(k for k in range(many) if degrees[k] == 1))
        return arrows

    def due(self, many, arrows):
        """The kind by the tree's shape: told apart by trying all kinds of this size."""
        shape = self.shape(many, arrows)
        for kind, (size, given) in KINDS:
            if size == many and self.shape(size, given) == shape:
                return kind
        return None

    def shape(self, many, arrows):
        """Something that trees share just where they are the same but for the points' order."""
        near = {k: [a + b - k for a, b in arrows if k in (a, b)] for k in range(many)}

        def text(point, ahead):
            return "(" + "".join(sorted(text(k, point) for k in near[point] if k != ahead)) + ")"

        return sorted(text(k, None) for k in range(many))

    def test_good_forms_have_kinds(self):
        """Each piece has a kind just where the form is above nought for each row but noughts."""
        for many, arrows in samples(8, 1500):
            drawing = Drawing(many, arrows)
            for piece, kind in zip(drawing.pieces(), drawing.kinds()):
                inside = [arrow for arrow in arrows if arrow[0] in piece]
                self.assertEqual(kind is not None, above_nought(piece, inside), arrows)


if __name__ == "__main__":
    unittest.main()
