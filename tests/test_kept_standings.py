"""Forms, roots and standings: what is handed in stays as it was, and what is told is the asker's own [2]."""

import copy
import random
import unittest

from drawn import KINDS, KINDLESS, row, samples
from limbtables.drawings import Drawing
from limbtables.errors import LimbError
from limbtables.forms import is_good, low_row, two_sided, worth
from limbtables.grounds import Ground
from limbtables.roots import mirrored, roots
from limbtables.standings import Standing, changed, count_maps, count_ties, maps, same, side_of
from samples import GROUNDS, HUGE, lists_in, sample_changes, sample_tables, standing_of, unit, wreck

DRAWINGS = [Drawing(3, [(0, 1), (2, 1)]), Drawing(2, [(0, 1), (0, 1), (1, 1)]), Drawing(1, []), Drawing(1, [(0, 0)]),
            Drawing(4, [(0, 3), (1, 3), (2, 3)])]


def fields(standing):
    """A copy of all that makes a standing."""
    return copy.deepcopy((standing.ground.prime, standing.drawing.many, standing.drawing.arrows, standing.sizes,
                          standing.tables))


def answers(standing):
    """What is told of a standing by itself."""
    whole = [unit(standing.ground, size) for size in standing.sizes]
    twice = side_of(standing.ground, standing.drawing, [standing, standing])
    return [fields(standing), maps(standing, standing), count_maps(standing, standing), count_ties(standing, standing),
            fields(changed(standing, whole)), fields(twice), same(standing, standing)]


class Rows(unittest.TestCase):
    def test_rows_handed_in_stay(self):
        chance = random.Random(1)
        for many, arrows in samples(1, 60):
            drawing = Drawing(many, arrows)
            one, other = [[chance.randint(-HUGE, HUGE) for _ in range(many)] for _ in range(2)]
            before = (list(one), list(other))
            two_sided(drawing, one, other)
            worth(drawing, one)
            for point in range(many):
                mirrored(drawing, point, one)
            self.assertEqual((one, other), before)
            self.assertEqual(two_sided(drawing, one, one), worth(drawing, one))
            self.assertEqual((drawing.many, drawing.arrows), (many, arrows))

    def test_change_of_a_row_behind_the_call(self):
        drawing = Drawing(3, [(0, 1), (2, 1)])
        one = [1, 2, 3]
        found = mirrored(drawing, 0, one)
        wreck(one)
        self.assertEqual(found, [1, 2, 3])
        wreck(found)
        self.assertEqual(mirrored(drawing, 0, [1, 2, 3]), [1, 2, 3])
        self.assertEqual(mirrored(drawing, 1, [1, 2, 3]), [1, 2, 3])

    def test_rows_told_are_the_askers_own(self):
        for many, arrows in KINDLESS:
            drawing = Drawing(many, arrows)
            found = low_row(drawing)
            due = list(found)
            wreck(found)
            again = low_row(drawing)
            self.assertEqual(again, due)
            self.assertIsNot(again, low_row(drawing))
            self.assertIs(is_good(drawing), False)

    def test_roots_told_are_the_askers_own(self):
        for _, (many, arrows) in KINDS:
            drawing = Drawing(many, arrows)
            found = roots(drawing)
            due = copy.deepcopy(found)
            wreck(found)
            again = roots(drawing)
            self.assertEqual(again, due)
            both = lists_in(again) + lists_in(roots(drawing))
            self.assertEqual(len({id(thing) for thing in both}), 2 * (len(due) + 1))
            self.assertEqual(drawing.arrows, arrows)

    def test_arrows_changed_behind_the_call(self):
        many, arrows = row(4)
        drawing = Drawing(many, arrows)
        due = roots(drawing)
        arrows.append((0, 0))
        self.assertIs(is_good(drawing), True)
        self.assertEqual(roots(drawing), due)


class Standings(unittest.TestCase):
    def each(self):
        for ground in GROUNDS:
            chance = random.Random(f"kept {ground.prime}")
            for drawing in DRAWINGS:
                yield ground, chance, drawing

    def test_what_makes_a_standing(self):
        for ground, chance, drawing in self.each():
            sizes = [chance.randint(1, 3) for _ in range(drawing.many)]
            tables = sample_tables(ground, chance, drawing, sizes)
            before = copy.deepcopy((sizes, tables))
            standing = Standing(ground, drawing, sizes, tables)
            due = answers(standing)
            self.assertEqual((sizes, tables), before)
            wreck(sizes)
            wreck(tables)
            self.assertEqual(answers(standing), due)
            self.assertEqual((standing.sizes, standing.tables), before)
            again = Standing(ground, drawing, *before)
            self.assertIs(same(standing, again), True)

    def test_what_is_refused_stays(self):
        ground, drawing = Ground(5), DRAWINGS[0]
        for sizes, tables in [([1, 1, -1], []), ([1, 1, 1], [(1, 1, [[7]]), (1, 1, [[1]])])]:
            before = copy.deepcopy((sizes, tables))
            with self.assertRaises(LimbError):
                Standing(ground, drawing, sizes, tables)
            self.assertEqual((sizes, tables), before)

    def test_changes(self):
        for ground, chance, drawing in self.each():
            standing = standing_of(ground, chance, drawing)
            due = answers(standing)
            changes = sample_changes(ground, chance, standing)
            before = copy.deepcopy(changes)
            found = changed(standing, changes)
            self.assertEqual(changes, before)
            self.assertEqual(answers(standing), due)
            there = answers(found)
            wreck(changes)
            self.assertEqual(answers(found), there)
            self.assertEqual(answers(standing), due)
            self.assertEqual(answers(changed(standing, before)), there)

    def test_changes_that_are_refused(self):
        for ground, chance, drawing in self.each():
            standing = standing_of(ground, chance, drawing)
            due = answers(standing)
            for changes in ([], [unit(ground, size + 1) for size in standing.sizes], [None] * drawing.many):
                before = copy.deepcopy(changes)
                with self.assertRaises(LimbError):
                    changed(standing, changes)
                self.assertEqual(changes, before)
            self.assertEqual(answers(standing), due)

    def test_lists_of_standings(self):
        for ground, chance, drawing in self.each():
            one, other = standing_of(ground, chance, drawing), standing_of(ground, chance, drawing)
            for given in ([], [one], [one, other], [one, one, other]):
                handed = list(given)
                ahead = [fields(standing) for standing in given]
                found = side_of(ground, drawing, handed)
                self.assertEqual(len(handed), len(given))
                self.assertTrue(all(a is b for a, b in zip(handed, given)))
                due = answers(found)
                handed.append(other)
                self.assertEqual(answers(found), due)
                wreck(handed)
                self.assertEqual(answers(found), due)
                self.assertEqual([fields(standing) for standing in given], ahead)
                self.assertEqual(answers(side_of(ground, drawing, given)), due)

    def test_standings_told_share_no_list(self):
        for ground, chance, drawing in self.each():
            one = standing_of(ground, chance, drawing)
            whole = [unit(ground, size) for size in one.sizes]
            told = [one, side_of(ground, drawing, [one]), side_of(ground, drawing, [one, one]), changed(one, whole),
                    Standing(ground, drawing, one.sizes, one.tables)]
            found = [thing for standing in told for thing in lists_in([standing.sizes, standing.tables])[1:]]
            self.assertEqual(len({id(thing) for thing in found}), len(found))

    def test_maps_told_are_the_askers_own(self):
        for ground, chance, drawing in self.each():
            one, other = standing_of(ground, chance, drawing), standing_of(ground, chance, drawing)
            ahead = (fields(one), fields(other))
            for pair in ((one, other), (one, one)):
                found = maps(*pair)
                due = copy.deepcopy(found)
                again = maps(*pair)
                both = lists_in(found) + lists_in(again)
                self.assertEqual(len({id(thing) for thing in both}), len(both))
                wreck(found)
                self.assertEqual(again, due)
                self.assertEqual(maps(*pair), due)
                self.assertEqual(count_maps(*pair), len(due))
            self.assertEqual((fields(one), fields(other)), ahead)

    def test_asking_changes_nothing(self):
        for ground, chance, drawing in self.each():
            one, other = standing_of(ground, chance, drawing), standing_of(ground, chance, drawing)
            ahead = (fields(one), fields(other))
            same(one, other)
            count_maps(one, other)
            count_ties(other, one)
            maps(one, other)
            side_of(ground, drawing, [one, other])
            changed(one, sample_changes(ground, chance, one))
            self.assertEqual((fields(one), fields(other)), ahead)


if __name__ == "__main__":
    unittest.main()
