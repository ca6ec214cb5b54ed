"""Tables and drawings: what is handed in stays as it was, and what is told is the asker's own [2]."""

import copy
import random
import unittest

from limbtables import tables
from limbtables.drawings import Drawing
from limbtables.errors import LimbError
from samples import GROUNDS, empty, lists_in, sample, sample_of_rank, sample_with_back, unit, wreck


def calls(ground):
    """Every call of limbtables.tables that is answered, with what is handed in behind the ground."""
    chance = random.Random(f"kept {ground.prime}")
    one, other = sample(ground, chance, 3, 4), sample(ground, chance, 3, 4)
    low, square = sample_of_rank(ground, chance, 4, 5, 2), sample_with_back(ground, chance, 3)
    tall, column = sample(ground, chance, 4, 2), sample(ground, chance, 3, 1)
    found = [(tables.is_table, [one]), (tables.is_table, [(1, 1, [["x"]])]), (tables.plain, [3]),
             (tables.noughts, [2, 3]), (tables.product, [one, tall]), (tables.product, [square, square]),
             (tables.sum_of, [one, other]), (tables.sum_of, [one, one]),
             (tables.side_by_side, [3, [one, square]]), (tables.side_by_side, [3, [one]]),
             (tables.side_by_side, [3, [one, one]]), (tables.side_by_side, [3, []]),
             (tables.one_over_another, [4, [one, other]]), (tables.one_over_another, [4, [one]]),
             (tables.one_over_another, [4, [one, one]]), (tables.one_over_another, [4, []]),
             (tables.along_corner, [[one, square]]), (tables.along_corner, [[one]]),
             (tables.along_corner, [[one, one]]), (tables.along_corner, [[]]),
             (tables.back_of, [square]), (tables.led_to, [square, column])]
    for table in (one, low, square, unit(ground, 3), empty(ground, 2, 3), (0, 2, []), (2, 0, [[], []])):
        for deed in (tables.reduced, tables.rank, tables.to_nought, tables.made_by, tables.left_beside,
                     tables.back_of):
            found.append((deed, [table]))
        found.append((tables.led_to, [table, empty(ground, table[0], 1)]))
    return found


class Tables(unittest.TestCase):
    def each(self):
        for ground in GROUNDS:
            for deed, given in calls(ground):
                yield ground, deed, copy.deepcopy(given)

    def test_handed_in_stays(self):
        for ground, deed, given in self.each():
            before = copy.deepcopy(given)
            deed(ground, *given)
            self.assertEqual(given, before, deed.__name__)

    def test_change_behind_the_call_changes_no_answer(self):
        for ground, deed, given in self.each():
            again = copy.deepcopy(given)
            answer = deed(ground, *given)
            before = copy.deepcopy(answer)
            wreck(given)
            self.assertEqual(answer, before, deed.__name__)
            self.assertEqual(deed(ground, *again), before, deed.__name__)

    def test_change_of_an_answer_changes_nothing(self):
        for ground, deed, given in self.each():
            before = copy.deepcopy(given)
            answer = deed(ground, *given)
            right = copy.deepcopy(answer)
            wreck(answer)
            self.assertEqual(given, before, deed.__name__)
            self.assertEqual(deed(ground, *given), right, deed.__name__)

    def test_lists_told_are_lists_of_their_own(self):
        for ground, deed, given in self.each():
            found = lists_in(deed(ground, *given))
            later = lists_in(deed(ground, *given))
            # One table may be handed in twice: what is handed in is counted once.
            handed = {id(thing) for thing in lists_in(given)}
            seen = handed | {id(thing) for thing in found + later}
            self.assertEqual(len(seen), len(handed) + len(found) + len(later), deed.__name__)

    def test_refused_calls_change_nothing(self):
        for ground in GROUNDS:
            one, two = unit(ground, 1), unit(ground, 2)
            for deed, given in [(tables.product, [one, two]), (tables.sum_of, [one, two]),
                                (tables.side_by_side, [1, [one, two]]), (tables.one_over_another, [1, [one, two]])]:
                before = copy.deepcopy(given)
                with self.assertRaises(LimbError):
                    deed(ground, *given)
                self.assertEqual(given, before)


class Drawings(unittest.TestCase):
    ARROWS = [(0, 1), (2, 1), (1, 3), (4, 4)]

    def answers(self, drawing):
        points = range(drawing.many)
        turned = [(drawing.turned(k).many, list(drawing.turned(k).arrows)) for k in points]
        return [drawing.many, list(drawing.arrows), drawing.pieces(), drawing.kinds(),
                [drawing.is_well(k) for k in points], [drawing.is_spring(k) for k in points], turned]

    def test_handed_in_stays(self):
        arrows = list(self.ARROWS)
        drawing = Drawing(6, arrows)
        self.answers(drawing)
        self.assertEqual(arrows, self.ARROWS)
        self.assertIsNot(drawing.arrows, arrows)

    def test_change_behind_the_call_changes_nothing(self):
        arrows = list(self.ARROWS)
        drawing = Drawing(6, arrows)
        before = self.answers(drawing)
        arrows[0] = (5, 5)
        arrows.append((0, 5))
        self.assertEqual(self.answers(drawing), before)
        self.assertEqual(drawing.arrows, self.ARROWS)
        arrows.clear()
        self.assertEqual(self.answers(drawing), before)

    def test_change_of_an_answer_changes_nothing(self):
        drawing = Drawing(6, self.ARROWS)
        before = self.answers(drawing)
        wreck(drawing.pieces())
        self.assertEqual(self.answers(drawing), before)
        wreck(drawing.kinds())
        self.assertEqual(self.answers(drawing), before)
        self.assertIsNot(drawing.pieces(), drawing.pieces())
        self.assertIsNot(drawing.kinds(), drawing.kinds())

    def test_turned_drawing_is_one_of_its_own(self):
        drawing = Drawing(6, self.ARROWS)
        before = self.answers(drawing)
        for point in range(6):
            self.assertIsNot(drawing.turned(point), drawing)
            self.assertIsNot(drawing.turned(point).arrows, drawing.arrows)
        self.assertEqual(self.answers(drawing), before)

    def test_refused_arrows_stay(self):
        arrows = [(0, 1), [1, 0], ("x",)]
        before = copy.deepcopy(arrows)
        with self.assertRaises(LimbError):
            Drawing(2, arrows)
        self.assertEqual(arrows, before)


if __name__ == "__main__":
    unittest.main()
