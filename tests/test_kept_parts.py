"""Mirrors, parts, taken apart, alike: what is handed in stays as it was, what is told is the asker's own [2]."""

import copy
import random
import unittest

from limbtables.alike import leading, parting
from limbtables.apart import counts, taken_apart
from limbtables.drawings import Drawing
from limbtables.errors import LimbError
from limbtables.grounds import Ground
from limbtables.mirrors import back_and_forth, forth_and_back, single, turned_in, turned_out
from limbtables.parts import part_of
from limbtables.standings import Standing, changed
from reckoned import good_drawings
from reckoned import fields as shared_fields
from samples import GROUNDS, lists_in, sample_changes, sample_tables, standing_of, wreck


def fields(standing):
    return copy.deepcopy(shared_fields(standing))


def flat(told):
    """What is told, with each standing as its fields: a copy to the bottom."""
    if isinstance(told, Standing):
        return fields(told)
    if isinstance(told, list):
        return [flat(thing) for thing in told]
    if isinstance(told, tuple):
        return tuple(flat(thing) for thing in told)
    return told


def told_lists(told):
    """All lists in what is told, those of standings too."""
    if isinstance(told, Standing):
        return lists_in(told.sizes) + lists_in(told.tables)
    if isinstance(told, (list, tuple)):
        inner = [thing for part in told for thing in told_lists(part)]
        return inner + ([told] if isinstance(told, list) else [])
    return []


def wreck_all(told):
    """Changes every list in what is told, those of standings too."""
    for thing in told_lists(told):
        thing[:] = ["wrecked"] * (len(thing) + 1)


def questions(standing, other):
    """All that is asked of a standing, or of it and another one, each as a call."""
    found = [lambda: taken_apart(standing), lambda: counts(standing), lambda: leading(standing, other),
             lambda: parting(standing, other), lambda: leading(standing, standing)]
    for point in range(standing.drawing.many):
        found.append(lambda point=point: single(standing.ground, standing.drawing, point))
        if standing.drawing.is_well(point):
            found.append(lambda point=point: turned_in(standing, point))
            found.append(lambda point=point: forth_and_back(standing, point))
        if standing.drawing.is_spring(point):
            found.append(lambda point=point: turned_out(standing, point))
            found.append(lambda point=point: back_and_forth(standing, point))
    return found


class Kept(unittest.TestCase):
    def each(self, seed):
        chance = random.Random(seed)
        for drawing in good_drawings(seed, 20, most=6):
            for ground in (Ground(0), Ground(3)):
                one = standing_of(ground, chance, drawing)
                yield one, changed(one, sample_changes(ground, chance, one))
                yield one, Standing(ground, drawing, one.sizes, sample_tables(ground, chance, drawing, one.sizes))

    def test_asking_changes_nothing(self):
        for one, other in self.each(1):
            before = (fields(one), fields(other))
            for ask in questions(one, other):
                ask()
                self.assertEqual((fields(one), fields(other)), before)

    def test_what_is_told_is_the_askers_own(self):
        for one, other in self.each(2):
            before = (fields(one), fields(other))
            for ask in questions(one, other):
                found, again = ask(), ask()
                due = flat(found)
                every = told_lists([one, other])[:-1] + told_lists([found, again])[:-1]
                self.assertEqual(len({id(thing) for thing in every}), len(every))
                wreck_all(found)
                self.assertEqual(flat(again), due)
                self.assertEqual(flat(ask()), due)
                self.assertEqual((fields(one), fields(other)), before)

    def test_a_standings_own_lists_changed_behind_the_call(self):
        for one, other in self.each(3):
            for at in range(len(questions(one, other))):
                mine, yours = [Standing(thing.ground, thing.drawing, thing.sizes, thing.tables)
                               for thing in (one, other)]
                found = questions(mine, yours)[at]()
                due = flat(found)
                wreck_all([mine, yours])
                self.assertEqual(flat(found), due)
                self.assertEqual(flat(questions(one, other)[at]()), due)

    def test_the_drawing_stays(self):
        for one, other in self.each(4):
            arrows = list(one.drawing.arrows)
            for ask in questions(one, other):
                ask()
            self.assertEqual(one.drawing.arrows, arrows)


class Roots(unittest.TestCase):
    def test_a_root_handed_in(self):
        for ground in GROUNDS:
            drawing = Drawing(4, [(0, 3), (1, 3), (2, 3)])
            for root in ([1, 1, 1, 2], [0, 0, 1, 0], [1, 1, 1, 1], [0, 0, 0, 1]):
                given = list(root)
                found = part_of(ground, drawing, given)
                self.assertEqual(given, root)
                due = fields(found)
                wreck(given)
                self.assertEqual(fields(found), due)
                again = part_of(ground, drawing, list(root))
                wreck_all(found)
                self.assertEqual(fields(again), due)
                self.assertEqual(fields(part_of(ground, drawing, list(root))), due)
                self.assertEqual(drawing.arrows, [(0, 3), (1, 3), (2, 3)])

    def test_a_root_told_and_handed_in_again(self):
        drawing = Drawing(3, [(0, 1), (2, 1)])
        ground = Ground(5)
        standing = part_of(ground, drawing, [1, 1, 1])
        root = counts(standing)[0][0]
        found = part_of(ground, drawing, root)
        wreck(root)
        self.assertEqual(found.sizes, [1, 1, 1])
        self.assertEqual(counts(standing), [([1, 1, 1], 1)])

    def test_what_is_no_root_stays(self):
        drawing = Drawing(3, [(0, 1), (2, 1)])
        for root in ([0, 0, 0], [True, 0, 0], [1, 2], [], [5, 5, 5], [-1, 0, 0]):
            given = list(root)
            with self.assertRaises(LimbError):
                part_of(Ground(2), drawing, given)
            self.assertEqual(repr(given), repr(root))


if __name__ == "__main__":
    unittest.main()
