"""The promise over the whole program: from a drawing to papers that are let by [1], [3]."""

import random
import unittest

from drawn import KINDLESS, moved, samples
from limbtables.alike import leading, parting
from limbtables.apart import counts, taken_apart
from limbtables.desk import Desk
from limbtables.drawings import Drawing
from limbtables.forms import is_good, low_row, two_sided, worth
from limbtables.grounds import Ground
from limbtables.mirrors import back_and_forth, forth_and_back, single
from limbtables.others import member
from limbtables.papers import lets_by
from limbtables.parts import part_of
from limbtables.roots import roots
from limbtables.standings import Standing, changed, count_maps, count_ties, same, side_of
from limbtables.tables import back_of
from limbtables.texts import read_drawing, read_standing, show_drawing, show_standing
from reckoned import fields, good_drawings
from samples import sample_changes, sample_tables, standing_of, told


def grounds(chance):
    return Ground(0), Ground(chance.choice([2, 3, 5, 97]))


def backs(ground, changes):
    return [back_of(ground, change) for change in changes]


class GoodDrawings(unittest.TestCase):
    def test_parts_are_as_many_as_roots(self):
        chance = random.Random(1)
        for drawing in good_drawings(1, 16, most=6):
            for ground in grounds(chance):
                parts = [part_of(ground, drawing, root) for root in roots(drawing)]
                for part in parts:
                    self.assertTrue(lets_by(part, ("fixed",)))
                    self.assertEqual(counts(part), [(part.sizes, 1)])

    def test_two_standings_have_a_paper_either_way(self):
        chance = random.Random(2)
        for drawing in good_drawings(2, 32):
            for ground in grounds(chance):
                one = standing_of(ground, chance, drawing)
                others = [changed(one, sample_changes(ground, chance, one)), standing_of(ground, chance, drawing),
                          Standing(ground, drawing, one.sizes, sample_tables(ground, chance, drawing, one.sizes))]
                for other in others:
                    changes, found = leading(one, other), parting(one, other)
                    self.assertEqual(changes is None, found is not None)
                    self.assertEqual(changes is None, counts(one) != counts(other))
                    if found is None:
                        self.assertTrue(same(changed(one, changes), other))
                        self.assertTrue(lets_by(one, ("change", other, changes, backs(ground, changes))))
                    else:
                        self.assertTrue(lets_by(one, ("unlike", other, part_of(ground, drawing, found[0]))))

    def test_standings_are_led_to_plain_parts(self):
        chance = random.Random(3)
        for drawing in good_drawings(3, 32):
            for ground in grounds(chance):
                standing = standing_of(ground, chance, drawing)
                parts, changes = taken_apart(standing)
                self.assertTrue(same(changed(standing, changes), side_of(ground, drawing, parts)))
                self.assertTrue(lets_by(standing, ("apart", parts, changes, backs(ground, changes))))
                self.assertEqual(sum(many for root, many in counts(standing)), len(parts))

    def test_counts_of_standings_side_by_side_are_added(self):
        chance = random.Random(4)
        for drawing in good_drawings(4, 24):
            for ground in grounds(chance):
                one, other = standing_of(ground, chance, drawing), standing_of(ground, chance, drawing)
                due = {}
                for root, many in counts(one) + counts(other):
                    due[tuple(root)] = due.get(tuple(root), 0) + many
                whole = side_of(ground, drawing, [one, other])
                self.assertEqual(counts(whole), sorted((list(root), many) for root, many in due.items()))

    def test_mirrors_forth_and_back(self):
        """A standing again, less what was split off: so many parts of the single root at the point fewer."""
        chance = random.Random(5)
        for drawing in good_drawings(5, 32):
            for ground in grounds(chance):
                standing = standing_of(ground, chance, drawing)
                for point in range(drawing.many):
                    one = [int(other == point) for other in range(drawing.many)]
                    due = [(root, many) for root, many in counts(standing) if root != one]
                    for deed, fits in ((forth_and_back, drawing.is_well(point)),
                                       (back_and_forth, drawing.is_spring(point))):
                        if fits:
                            turned, home, many, changes = deed(standing, point)
                            whole = side_of(ground, drawing, [home] + [single(ground, drawing, point)] * many)
                            self.assertTrue(same(changed(standing, changes), whole))
                            self.assertEqual(counts(home), due)
                            self.assertEqual(many, dict((tuple(r), m) for r, m in counts(standing)).get(tuple(one), 0))

    def test_roots_have_worth_one_and_no_ties(self):
        chance = random.Random(6)
        for drawing in good_drawings(6, 16, most=5):
            ground = grounds(chance)[1]
            for root in roots(drawing):
                part = part_of(ground, drawing, root)
                self.assertEqual(worth(drawing, root), 1)
                self.assertEqual((count_maps(part, part), count_ties(part, part)), (1, 0))

    def test_maps_less_ties_are_the_form(self):
        chance = random.Random(7)
        for many, arrows in samples(7, 40):
            drawing = Drawing(many, arrows)
            one, other = [standing_of(Ground(3), chance, drawing, 2) for _ in range(2)]
            due = two_sided(drawing, one.sizes, other.sizes)
            self.assertEqual(count_maps(one, other) - count_ties(one, other), due)


class EveryDrawing(unittest.TestCase):
    def test_good_or_members(self):
        """Of each drawing there are either finitely many parts, or a standing for each number."""
        chance = random.Random(8)
        for many, arrows in list(samples(8, 60)) + [(many, moved(chance, many, arrows)) for many, arrows in KINDLESS]:
            drawing = Drawing(many, arrows)
            for ground in grounds(chance):
                if is_good(drawing):
                    self.assertIsNone(low_row(drawing))
                    self.assertEqual(counts(part_of(ground, drawing, roots(drawing)[-1])), [(roots(drawing)[-1], 1)])
                else:
                    self.assertLessEqual(worth(drawing, low_row(drawing)), 0)
                    one, other = [member(ground, drawing, told(ground, number)) for number in (0, 1)]
                    self.assertTrue(lets_by(one, ("fixed",)) and lets_by(other, ("fixed",)))
                    self.assertEqual(one.sizes, other.sizes)

    def test_by_texts(self):
        chance = random.Random(9)
        for many, arrows in samples(9, 40):
            drawing = Drawing(many, arrows)
            for ground in grounds(chance):
                standing = standing_of(ground, chance, drawing)
                again = read_standing(ground, read_drawing(show_drawing(drawing)), show_standing(standing))
                self.assertTrue(same(standing, again))
                desk = Desk(ground.prime, show_drawing(drawing))
                desk.say(f"keep it {show_standing(standing)}")
                self.assertEqual(desk.say("told it"), show_standing(again))
                self.assertEqual(fields(again), fields(standing))


if __name__ == "__main__":
    unittest.main()
