"""The form of a drawing, and drawings that are good or not [3], [12], [13]."""

import itertools
import random
import unittest

from drawn import KINDLESS, KINDS, above_nought, moved, row, samples, several, star
from limbtables.drawings import Drawing
from limbtables.forms import is_good, low_row, two_sided, worth
from samples import HUGE


def form_of(many, arrows):
    """The form as a square of numbers, tails down and heads across."""
    form = [[int(a == b) for b in range(many)] for a in range(many)]
    for tail, head in arrows:
        form[tail][head] -= 1
    return form


def due_form(many, arrows, one, other):
    form = form_of(many, arrows)
    return sum(one[a] * form[a][b] * other[b] for a in range(many) for b in range(many))


def rows_of(chance, many):
    """Rows of small numbers, of numbers below 0, and of thirty figures."""
    return [[chance.randint(0, 9) for _ in range(many)], [chance.randint(-9, 9) for _ in range(many)],
            [chance.randint(-HUGE, HUGE) for _ in range(many)], [chance.choice((HUGE, -HUGE)) for _ in range(many)],
            [0] * many]


class Forms(unittest.TestCase):
    def test_written_ones(self):
        for many, arrows, one, other, due in [
                (1, [], [3], [5], 15), (1, [(0, 0)], [3], [5], 0), (1, [(0, 0)] * 3, [3], [5], -30),
                (2, [], [1, 2], [3, 4], 11), (2, [(0, 1)], [1, 2], [3, 4], 7), (2, [(1, 0)], [1, 2], [3, 4], 5),
                (2, [(0, 1)] * 3, [1, 2], [3, 4], -1), (2, [(0, 1), (1, 0)], [1, 2], [3, 4], 1),
                (3, [(0, 1), (2, 1)], [1, 0, 0], [0, 1, 0], -1), (3, [(0, 1), (2, 1)], [0, 1, 0], [1, 0, 0], 0),
                (3, [(0, 1), (2, 1)], [1, 1, 1], [1, 1, 1], 1), (3, [(0, 1)], [0, 0, -2], [5, 5, 7], -14),
                (2, [(0, 1), (1, 1)], [-1, 2], [3, -4], -7), (2, [(0, 1)], [HUGE, 0], [0, HUGE], -HUGE * HUGE),
                (3, [(0, 1), (1, 2)], [0, 0, 0], [HUGE, 1, -HUGE], 0)]:
            self.assertEqual(two_sided(Drawing(many, arrows), one, other), due, (arrows, one, other))

    def test_all_sorts_of_drawings(self):
        chance = random.Random(1)
        for many, arrows in list(samples(1, 200)) + KINDLESS + [given for _, given in KINDS]:
            drawing = Drawing(many, arrows)
            rows = rows_of(chance, many)
            for one in rows:
                for other in rows:
                    found = two_sided(drawing, one, other)
                    self.assertEqual(found, due_form(many, arrows, one, other))
                    self.assertIs(found.__class__, int)

    def test_first_row_is_asked_at_tails(self):
        """One number alone on each side: only the arrows from the first one's point to the other's count."""
        for many, arrows in samples(2, 100):
            drawing = Drawing(many, arrows)
            for a in range(many):
                for b in range(many):
                    one = [int(k == a) for k in range(many)]
                    other = [int(k == b) for k in range(many)]
                    self.assertEqual(two_sided(drawing, one, other), int(a == b) - arrows.count((a, b)))

    def test_worth(self):
        chance = random.Random(3)
        for many, arrows in list(samples(3, 200)) + KINDLESS + [given for _, given in KINDS]:
            drawing = Drawing(many, arrows)
            for one in rows_of(chance, many):
                self.assertEqual(worth(drawing, one), due_form(many, arrows, one, one))

    def test_worth_of_written_ones(self):
        for many, arrows, one, due in [
                (1, [], [4], 16), (1, [(0, 0)], [4], 0), (1, [(0, 0), (0, 0)], [4], -16), (2, [(0, 1)], [1, 1], 1),
                (2, [(0, 1)], [1, -1], 3), (2, [(1, 0), (0, 1)], [1, 1], 0), (2, [(0, 1)] * 3, [2, 3], -5),
                (4, [(0, 1), (0, 2), (0, 3)], [2, 1, 1, 1], 1), (2, [], [HUGE, -HUGE], 2 * HUGE * HUGE)]:
            self.assertEqual(worth(Drawing(many, arrows), one), due)

    def test_worth_is_the_same_whichever_way_arrows_point(self):
        chance = random.Random(4)
        for many, arrows in samples(4, 100):
            turned = [arrow[::chance.choice((1, -1))] for arrow in arrows]
            for one in rows_of(chance, many):
                self.assertEqual(worth(Drawing(many, arrows), one), worth(Drawing(many, turned), one))


class Good(unittest.TestCase):
    def assert_good(self, many, arrows):
        drawing = Drawing(many, arrows)
        self.assertIs(is_good(drawing), True, arrows)
        self.assertIsNone(low_row(drawing), arrows)

    def assert_not_good(self, many, arrows):
        drawing = Drawing(many, arrows)
        self.assertIs(is_good(drawing), False, arrows)
        found = low_row(drawing)
        self.assertIsInstance(found, list)
        self.assertEqual(len(found), many)
        for number in found:
            self.assertIs(number.__class__, int)
            self.assertGreaterEqual(number, 0)
        self.assertTrue(any(found), arrows)
        self.assertLessEqual(due_form(many, arrows, found, found), 0, arrows)

    def test_each_kind(self):
        chance = random.Random(5)
        for _, (many, arrows) in KINDS:
            self.assert_good(many, arrows)
            for _ in range(30):
                self.assert_good(many, moved(chance, many, arrows))

    def test_several_pieces(self):
        chance = random.Random(6)
        for many in range(1, 9):
            self.assert_good(many, [])
        for pieces in itertools.combinations_with_replacement([given for _, given in KINDS], 2):
            if sum(size for size, _ in pieces) <= 8:
                self.assert_good(*several(chance, pieces))
        self.assert_good(*several(chance, [row(1), star(1, 1, 1), row(3)]))
        self.assert_good(*several(chance, [row(2), row(2), row(2), row(1), row(1)]))

    def test_no_kind(self):
        chance = random.Random(7)
        for many, arrows in KINDLESS:
            self.assert_not_good(many, arrows)
            for _ in range(20):
                self.assert_not_good(many, moved(chance, many, arrows))

    def test_rings_each_way(self):
        for many in range(2, 9):
            ring = [(k, (k + 1) % many) for k in range(many)]
            for turns in itertools.product((1, -1), repeat=many):
                self.assert_not_good(many, [arrow[::turn] for arrow, turn in zip(ring, turns)])

    def test_loops_and_arrows_twice(self):
        for many in range(1, 9):
            for point in range(many):
                self.assert_not_good(many, [(point, point)])
                self.assert_not_good(many, row(many)[1] + [(point, point)])
                self.assert_not_good(many, [(point, point)] * 9)
            for point in range(1, many):
                self.assert_not_good(many, [(0, point), (0, point)])
                self.assert_not_good(many, [(0, point), (point, 0)])
                self.assert_not_good(many, [(point, 0)] * 9)
                self.assert_not_good(many, row(many)[1] + [(point - 1, point)])

    def test_edges_of_the_kinds(self):
        for lengths in [(1, 1, 1, 1), (1, 1, 1, 4), (2, 2, 2), (2, 2, 3), (1, 3, 3), (1, 1, 1, 1, 1, 1, 1),
                        (1, 2, 2, 2)]:
            self.assert_not_good(*star(*lengths))
        for many in range(6, 9):
            # A fork at each end of a row.
            arrows = [(k, k + 1) for k in range(many - 3)] + [(1, many - 2), (many - 4, many - 1)]
            self.assert_not_good(many, arrows)
        for lengths in [(1, 1, 5), (1, 2, 4), (1, 2, 3), (1, 2, 2)]:
            self.assert_good(*star(*lengths))

    def test_one_bad_piece_among_good_ones(self):
        chance = random.Random(8)
        good = [given for _, given in KINDS]
        for bad in KINDLESS:
            for piece in good:
                if bad[0] + piece[0] <= 8 and len(bad[1]) + len(piece[1]) <= 9:
                    self.assert_not_good(*several(chance, [bad, piece]))
                    self.assert_not_good(*several(chance, [piece, bad]))
        self.assert_not_good(8, [(0, 1), (1, 2), (5, 6), (7, 7)])
        self.assert_not_good(8, [(7, 6), (6, 5), (1, 0), (0, 1)])

    def test_all_sorts_of_drawings(self):
        good = 0
        for many, arrows in samples(9, 3000):
            if above_nought(list(range(many)), arrows):
                self.assert_good(many, arrows)
                good += 1
            else:
                self.assert_not_good(many, arrows)
        self.assertGreater(good, 100)

    def test_good_forms_are_above_nought(self):
        chance = random.Random(10)
        for _, (many, arrows) in KINDS:
            drawing = Drawing(many, moved(chance, many, arrows))
            if many <= 5:
                tried = [list(one) for one in itertools.product(range(-2, 3), repeat=many)]
            else:
                tried = [[chance.randint(-4, 4) for _ in range(many)] for _ in range(500)]
            for one in tried:
                self.assertEqual(worth(drawing, one) > 0, any(one), one)


if __name__ == "__main__":
    unittest.main()
