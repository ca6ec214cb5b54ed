"""Members, bars, papers, texts, the desk: what is handed in stays, what is told is the asker's own [2]."""

import copy
import random
import unittest

from drawn import KINDLESS, row
from limbtables.apart import counts
from limbtables.desk import Desk
from limbtables.drawings import Drawing
from limbtables.grounds import Ground
from limbtables.others import bars, member
from limbtables.papers import lets_by
from limbtables.standings import Standing, changed
from limbtables.tables import back_of
from limbtables.texts import read_drawing, read_standing, show_drawing, show_standing, show_table
from reckoned import fields as shared_fields
from samples import GROUNDS, lists_in, sample_changes, standing_of, told, wreck


def fields(standing):
    return copy.deepcopy(shared_fields(standing))


def wreck_standing(standing):
    wreck(standing.sizes)
    wreck(standing.tables)


class Members(unittest.TestCase):
    def test_told_anew(self):
        for many, arrows in KINDLESS:
            drawing = Drawing(many, arrows)
            for ground in (Ground(0), Ground(2)):
                found, again = [member(ground, drawing, told(ground, 1)) for _ in range(2)]
                due = fields(found)
                every = lists_in([found.sizes, found.tables, again.sizes, again.tables])
                self.assertEqual(len({id(thing) for thing in every}), len(every))
                wreck_standing(found)
                self.assertEqual(fields(again), due)
                self.assertEqual(fields(member(ground, drawing, told(ground, 1))), due)
                self.assertEqual((drawing.many, drawing.arrows), (many, arrows))


class Bars(unittest.TestCase):
    def test_told_anew(self):
        chance = random.Random(1)
        for ground in GROUNDS:
            for many in (1, 3, 5):
                standing = standing_of(ground, chance, Drawing(*row(many)))
                before = fields(standing)
                found = bars(standing)
                due = list(found)
                wreck(found)
                self.assertEqual(bars(standing), due)
                self.assertEqual(fields(standing), before)
                other = Standing(ground, standing.drawing, standing.sizes, standing.tables)
                found = bars(other)
                wreck_standing(other)
                self.assertEqual(found, due)


class Papers(unittest.TestCase):
    def test_lists_changed_behind_the_call(self):
        chance = random.Random(2)
        for ground in GROUNDS:
            standing = standing_of(ground, chance, Drawing(*row(3)))
            changes = sample_changes(ground, chance, standing)
            other = changed(standing, changes)
            backs = [back_of(ground, change) for change in changes]
            given = copy.deepcopy((changes, backs))
            self.assertTrue(lets_by(standing, ("change", other, *given)))
            self.assertEqual(given, (changes, backs))
            wreck(given)
            self.assertTrue(lets_by(standing, ("change", other, changes, backs)))
            self.assertFalse(lets_by(standing, ("change", other, *given)))


class Texts(unittest.TestCase):
    def test_showing_changes_nothing(self):
        chance = random.Random(3)
        for ground in GROUNDS:
            standing = standing_of(ground, chance, Drawing(3, [(0, 1), (2, 1), (1, 1)]))
            before = fields(standing)
            show_standing(standing)
            show_drawing(standing.drawing)
            for table in standing.tables:
                show_table(ground, table)
            self.assertEqual(fields(standing), before)

    def test_read_anew(self):
        drawing = read_drawing("3: 0>1 2>1")
        wreck(drawing.arrows)
        again = read_drawing("3: 0>1 2>1")
        self.assertEqual(again.arrows, [(0, 1), (2, 1)])
        for ground in GROUNDS:
            found, other = [read_standing(ground, again, "1 2 0; 1 / 0; -") for _ in range(2)]
            due = fields(other)
            wreck_standing(found)
            self.assertEqual(fields(other), due)
            self.assertEqual(fields(read_standing(ground, again, "1 2 0; 1 / 0; -")), due)


class Desks(unittest.TestCase):
    def test_later_answers_hang_on_later_rows_alone(self):
        desk = Desk(5, "3: 0>1 2>1")
        desk.say("keep a 1 2 1; 1 / 0; 0 / 1")
        desk.say("sum a a b")
        desk.say("turn b 1 x")
        desk.say("keep a 0 0 0; -; -")
        self.assertEqual(desk.say("counts b"), "0,1,1:2 1,1,0:2")
        desk.say("keep b 0 0 0; -; -")
        desk.say("home x c")
        self.assertEqual(desk.say("counts c"), "0,1,1:2 1,1,0:2")

    def test_names_are_kept_as_texts(self):
        desk = Desk(0, "1:")
        for name in ("a", "b", "keep", "told", "good"):
            self.assertEqual(desk.say(f"keep {name} 2"), "ok")
            self.assertEqual(desk.say(f"told {name}"), "2")
        self.assertEqual(desk.say("counts keep"), "1:2")
        self.assertEqual(counts(read_standing(Ground(0), Drawing(1, []), desk.say("told keep"))), [([1], 2)])


if __name__ == "__main__":
    unittest.main()
