"""Papers: right ones are let by, no wrong one, and nothing is refused [27], [3]."""

import ast
import copy
import pathlib
import random
import unittest

from drawn import KINDLESS, moved
from limbtables.alike import leading, parting
from limbtables.apart import taken_apart
from limbtables.drawings import Drawing
from limbtables.grounds import Ground
from limbtables.mirrors import single
from limbtables.others import member
from limbtables.papers import lets_by
from limbtables.parts import part_of
from limbtables.roots import roots
from limbtables.standings import Standing, changed, count_maps, side_of
from limbtables.tables import back_of
from reckoned import beside, fields, good_drawings, maps_counted, nothing_on
from samples import (GROUNDS, ODD_THINGS, empty, sample_changes, sample_tables, standing_of, table_of, told, unit)

ARROW = Drawing(2, [(0, 1)])
LINES = Drawing(4, [(0, 3), (1, 3), (2, 3)])


def backs_of(ground, changes):
    return [back_of(ground, change) for change in changes]


def change_paper(ground, chance, standing):
    changes = sample_changes(ground, chance, standing)
    return ("change", changed(standing, changes), changes, backs_of(ground, changes))


def apart_paper(standing):
    parts, changes = taken_apart(standing)
    return ("apart", parts, changes, backs_of(standing.ground, changes))


def with_one_number_wrong(ground, chance, tables):
    """The tables, one number of them another one; None where there are no numbers."""
    found = copy.deepcopy(tables)
    places = [(at, i, j) for at, (high, wide, rows) in enumerate(found) for i in range(high) for j in range(wide)]
    if not places:
        return None
    at, i, j = chance.choice(places)
    found[at][2][i][j] = ground.plus(found[at][2][i][j], told(ground, 1))
    return found


class Case(unittest.TestCase):
    def right(self, standing, paper):
        self.assertIs(lets_by(standing, paper), True)

    def wrong(self, standing, paper):
        with self.subTest(repr(paper)[:200]):
            self.assertIs(lets_by(standing, paper), False)


class Changes(Case):
    def each(self, seed):
        chance = random.Random(seed)
        for ground in GROUNDS:
            for drawing in list(good_drawings(seed, 12)) + [Drawing(many, arrows) for many, arrows in KINDLESS[:8]]:
                yield ground, chance, standing_of(ground, chance, drawing)

    def test_right_ones(self):
        for ground, chance, standing in self.each(1):
            self.right(standing, change_paper(ground, chance, standing))
            whole = [unit(ground, size) for size in standing.sizes]
            self.right(standing, ("change", standing, whole, whole))

    def test_a_number_wrong(self):
        for ground, chance, standing in self.each(2):
            word, other, changes, backs = change_paper(ground, chance, standing)
            spoiled = with_one_number_wrong(ground, chance, changes)
            if spoiled is not None:
                self.wrong(standing, (word, other, spoiled, backs))
            spoiled = with_one_number_wrong(ground, chance, backs)
            if spoiled is not None:
                self.wrong(standing, (word, other, changes, spoiled))
            spoiled = with_one_number_wrong(ground, chance, other.tables)
            if spoiled is not None:
                self.wrong(standing, (word, Standing(ground, other.drawing, other.sizes, spoiled), changes, backs))

    def test_changes_and_backs_the_other_way_about(self):
        ground = Ground(5)
        standing = Standing(ground, ARROW, [1, 1], [(1, 1, [[1]])])
        changes = [(1, 1, [[2]]), (1, 1, [[1]])]
        backs = [(1, 1, [[3]]), (1, 1, [[1]])]
        other = Standing(ground, ARROW, [1, 1], [(1, 1, [[2]])])
        self.right(standing, ("change", other, changes, backs))
        self.wrong(standing, ("change", other, backs, changes))
        self.wrong(standing, ("change", other, changes[::-1], backs[::-1]))
        self.right(other, ("change", standing, backs, changes))
        self.wrong(other, ("change", standing, changes, backs))

    def test_no_backs(self):
        """Noughts lead noughts to noughts, but have no backs."""
        for ground in GROUNDS:
            standing = nothing_on(ground, ARROW, [1, 2])
            flat = [empty(ground, size, size) for size in standing.sizes]
            whole = [unit(ground, size) for size in standing.sizes]
            self.right(standing, ("change", standing, whole, whole))
            for changes, backs in ((flat, flat), (flat, whole), (whole, flat), (whole, []), ([], []),
                                   (whole, whole[:1]), (whole[:1], whole), (whole + whole, whole + whole),
                                   (whole, whole + [unit(ground, 0)]), (whole[::-1], whole[::-1])):
                self.wrong(standing, ("change", standing, changes, backs))

    def test_half_backs(self):
        """Tables that are not square, each a back from one side."""
        ground = Ground(3)
        standing = nothing_on(ground, Drawing(1, []), [2])
        tall, flat = (2, 1, [[1], [0]]), (1, 2, [[1, 0]])
        self.wrong(standing, ("change", standing, [tall], [flat]))
        self.wrong(standing, ("change", standing, [flat], [tall]))
        one = nothing_on(ground, Drawing(1, []), [1])
        self.wrong(one, ("change", one, [flat], [tall]))
        self.wrong(one, ("change", one, [unit(ground, 2)], [unit(ground, 2)]))

    def test_other_sizes_ground_or_drawing(self):
        for ground in GROUNDS:
            chance = random.Random(3)
            none = [unit(ground, 0)] * 2
            standing = nothing_on(ground, ARROW, [0, 0])
            self.right(standing, ("change", nothing_on(Ground(ground.prime), Drawing(2, [(0, 1)]), [0, 0]), none, none))
            for other in (nothing_on(Ground(5), ARROW, [0, 0]), nothing_on(ground, Drawing(2, [(1, 0)]), [0, 0]),
                          nothing_on(ground, Drawing(2, []), [0, 0]), nothing_on(ground, ARROW, [0, 1]),
                          nothing_on(ground, Drawing(3, [(0, 1)]), [0, 0, 0]),
                          nothing_on(ground, Drawing(2, [(0, 1), (0, 1)]), [0, 0]),
                          nothing_on(ground, Drawing(1, []), [0])):
                self.wrong(standing, ("change", other, none, none))
            one = standing_of(ground, chance, LINES)
            word, other, changes, backs = change_paper(ground, chance, one)
            swapped = Drawing(4, [(1, 3), (0, 3), (2, 3)])
            if one.sizes[0] == one.sizes[1]:
                self.wrong(one, (word, Standing(ground, swapped, other.sizes, other.tables), changes, backs))
            self.wrong(one, (word, nothing_on(ground, LINES, [size + 1 for size in one.sizes]), changes, backs))

    def test_arrows_from_a_point_to_itself(self):
        ground = Ground(7)
        loop = Drawing(1, [(0, 0)])
        one = Standing(ground, loop, [2], [(2, 2, [[1, 0], [0, 2]])])
        other = Standing(ground, loop, [2], [(2, 2, [[2, 0], [0, 1]])])
        swap = [(2, 2, [[0, 1], [1, 0]])]
        self.right(one, ("change", other, swap, swap))
        self.wrong(one, ("change", one, swap, swap))


class Apart(Case):
    def each(self, seed, most=7):
        chance = random.Random(seed)
        for drawing in good_drawings(seed, 24, most):
            for ground in (Ground(0), Ground(2), Ground(5)):
                yield ground, chance, standing_of(ground, chance, drawing)

    def test_what_the_program_tells(self):
        for ground, chance, standing in self.each(11):
            self.right(standing, apart_paper(standing))

    def test_none_at_all(self):
        for ground in GROUNDS:
            standing = nothing_on(ground, ARROW, [0, 0])
            none = [unit(ground, 0)] * 2
            self.right(standing, ("apart", [], none, none))
            self.wrong(standing, ("apart", [standing], none, none))
            self.wrong(standing, ("apart", (), none, none))
            self.wrong(nothing_on(ground, ARROW, [1, 0]), ("apart", [], none, none))

    def test_a_number_wrong(self):
        for ground, chance, standing in self.each(12):
            word, parts, changes, backs = apart_paper(standing)
            for given, place in ((changes, 2), (backs, 3)):
                spoiled = with_one_number_wrong(ground, chance, given)
                if spoiled is not None:
                    paper = [word, parts, changes, backs]
                    paper[place] = spoiled
                    self.wrong(standing, tuple(paper))

    def test_a_part_wrong(self):
        for ground, chance, standing in self.each(13):
            word, parts, changes, backs = apart_paper(standing)
            drawing = standing.drawing
            if not parts:
                continue
            self.wrong(standing, (word, parts[1:], changes, backs))
            self.wrong(standing, (word, parts + parts[:1], changes, backs))
            self.wrong(standing, (word, parts * 2000, changes, backs))
            if beside(ground, drawing, parts[::-1]) != beside(ground, drawing, parts):
                self.wrong(standing, (word, parts[::-1], changes, backs))
            tables = with_one_number_wrong(ground, chance, parts[-1].tables)
            if tables is not None:
                spoiled = Standing(ground, drawing, parts[-1].sizes, tables)
                self.wrong(standing, (word, parts[:-1] + [spoiled], changes, backs))

    def test_order_of_the_parts(self):
        """The same parts in another order, with the changes moved likewise, are right too."""
        ground = Ground(3)
        one, other = part_of(ground, ARROW, [1, 1]), part_of(ground, ARROW, [1, 0])
        whole = side_of(ground, ARROW, [one, other])
        swap = [(2, 2, [[0, 1], [1, 0]]), (1, 1, [[1]])]
        plain = [unit(ground, 2), unit(ground, 1)]
        self.right(whole, ("apart", [one, other], plain, plain))
        self.right(whole, ("apart", [other, one], swap, swap))
        self.wrong(whole, ("apart", [other, one], plain, plain))
        self.wrong(whole, ("apart", [one, other], swap, swap))

    def test_parts_that_are_not_plain(self):
        for ground in GROUNDS:
            whole = lambda standing: [unit(ground, size) for size in standing.sizes]
            # Worth 1, yet it can be parted; worth 2; sizes of a part twice, which are worth 4.
            for standing in (nothing_on(ground, ARROW, [1, 1]), nothing_on(ground, Drawing(2, []), [1, 1]),
                             side_of(ground, ARROW, [part_of(ground, ARROW, [1, 1])] * 2),
                             nothing_on(ground, Drawing(1, []), [2]), nothing_on(ground, ARROW, [0, 0])):
                self.wrong(standing, ("apart", [standing], whole(standing), whole(standing)))
            part = part_of(ground, ARROW, [1, 1])
            self.right(part, ("apart", [part], whole(part), whole(part)))

    def test_only_numbers_map_it_to_itself_but_its_sizes_are_worth_nought(self):
        for ground in GROUNDS:
            for drawing in (Drawing(2, [(0, 1), (0, 1)]), Drawing(1, [(0, 0)])):
                one = member(ground, drawing, told(ground, 1))
                whole = [unit(ground, size) for size in one.sizes]
                self.wrong(one, ("apart", [one], whole, whole))
                self.right(one, ("fixed",))

    def test_on_drawings_that_are_not_good(self):
        """Parts with sizes of worth 1 that only numbers map to themselves are there of any drawing."""
        for ground in GROUNDS:
            drawing = Drawing(2, [(0, 1), (0, 1)])
            one, other = single(ground, drawing, 0), single(ground, drawing, 1)
            whole = [unit(ground, 1), unit(ground, 1)]
            self.right(nothing_on(ground, drawing, [1, 1]), ("apart", [one, other], whole, whole))
            wide = Standing(ground, drawing, [1, 2], [table_of(ground, 2, 1, [[1], [0]]),
                                                      table_of(ground, 2, 1, [[0], [1]])])
            plain = [unit(ground, 1), unit(ground, 2)]
            self.right(wide, ("apart", [wide], plain, plain))

    def test_parts_of_another_ground_or_drawing(self):
        for ground in GROUNDS:
            part = single(ground, ARROW, 0)
            whole = [unit(ground, 1), unit(ground, 0)]
            self.right(part, ("apart", [part], whole, whole))
            for other in (single(Ground(5), ARROW, 0), single(ground, Drawing(2, [(1, 0)]), 0),
                          single(ground, Drawing(2, []), 0), single(ground, Drawing(1, []), 0),
                          single(ground, Drawing(3, [(0, 1)]), 0), None, 1, "part", [part], (part,), whole):
                self.wrong(part, ("apart", [other], whole, whole))


class Unlike(Case):
    def test_what_the_program_tells(self):
        chance = random.Random(21)
        told_of = 0
        for drawing in good_drawings(21, 32):
            for ground in (Ground(0), Ground(2)):
                one = standing_of(ground, chance, drawing)
                other = Standing(ground, drawing, one.sizes, sample_tables(ground, chance, drawing, one.sizes))
                found = parting(one, other)
                if found is None:
                    changes = leading(one, other)
                    self.right(one, ("change", other, changes, backs_of(ground, changes)))
                    for root in roots(drawing)[:6]:
                        self.wrong(one, ("unlike", other, part_of(ground, drawing, root)))
                else:
                    told_of += 1
                    self.right(one, ("unlike", other, part_of(ground, drawing, found[0])))
                    self.right(other, ("unlike", one, part_of(ground, drawing, found[0])))
        self.assertGreater(told_of, 10)

    def test_any_part(self):
        """Any standing may count two others apart, on any drawing."""
        chance = random.Random(22)
        found = []
        for many, arrows in KINDLESS[:8] + [(2, [(0, 1)])]:
            drawing = Drawing(many, arrows)
            for ground in (Ground(0), Ground(2)):
                for _ in range(4):
                    one, other, part = [standing_of(ground, chance, drawing, 2) for _ in range(3)]
                    due = maps_counted(part, one) != maps_counted(part, other)
                    self.assertIs(lets_by(one, ("unlike", other, part)), due)
                    found.append(due)
        self.assertTrue(True in found and False in found)

    def test_the_way_of_the_maps(self):
        """Counted are maps from the part, not to it."""
        ground = Ground(2)
        one, other = part_of(ground, ARROW, [1, 1]), single(ground, ARROW, 1)
        for part in (one, other, single(ground, ARROW, 0)):
            due = count_maps(part, one) != count_maps(part, other)
            self.assertIs(lets_by(one, ("unlike", other, part)), due)
            self.assertIs(lets_by(other, ("unlike", one, part)), due)
        self.wrong(one, ("unlike", other, other))
        self.right(one, ("unlike", other, one))

    def test_wrong_ones(self):
        for ground in GROUNDS:
            one, none = single(ground, ARROW, 0), nothing_on(ground, ARROW, [0, 0])
            self.right(one, ("unlike", none, one))
            self.wrong(one, ("unlike", one, one))
            self.wrong(one, ("unlike", none, none))
            for other in (single(Ground(5), ARROW, 0), nothing_on(ground, Drawing(2, [(1, 0)]), [0, 0]),
                          nothing_on(ground, Drawing(3, [(0, 1)]), [0, 0, 0]), None, 0, "one", (none,), [none]):
                self.wrong(one, ("unlike", other, one))
                self.wrong(one, ("unlike", none, other))


class Fixed(Case):
    def test_fixed(self):
        chance = random.Random(31)
        for ground in (Ground(0), Ground(2), Ground(3)):
            for many, arrows in KINDLESS[:10] + [(2, [(0, 1)]), (3, [(0, 1), (2, 1)])]:
                drawing = Drawing(many, moved(chance, many, arrows))
                for _ in range(3):
                    standing = standing_of(ground, chance, drawing, 2)
                    self.assertIs(lets_by(standing, ("fixed",)), maps_counted(standing, standing) == 1)
                if None in drawing.kinds():
                    self.right(member(ground, drawing, told(ground, 1)), ("fixed",))

    def test_parts_and_others(self):
        for ground in GROUNDS:
            for drawing in good_drawings(32, 8, most=5):
                for root in roots(drawing):
                    part = part_of(ground, drawing, root)
                    self.right(part, ("fixed",))
                    self.wrong(side_of(ground, drawing, [part, part]), ("fixed",))
                self.wrong(nothing_on(ground, drawing, [0] * drawing.many), ("fixed",))


class ThingsOfWhateverKind(Case):
    def setUp(self):
        self.ground = Ground(5)
        self.standing = part_of(self.ground, ARROW, [1, 1])
        self.whole = [unit(self.ground, 1), unit(self.ground, 1)]
        self.papers = [("change", self.standing, self.whole, self.whole),
                       ("apart", [self.standing], self.whole, self.whole),
                       ("unlike", nothing_on(self.ground, ARROW, [0, 0]), self.standing), ("fixed",)]

    def test_they_are_right_as_they_stand(self):
        for paper in self.papers:
            self.right(self.standing, paper)

    def test_no_papers(self):
        for thing in ODD_THINGS + [self.standing, [self.standing], (self.standing,), 5, -1, "fixed", "change",
                                   ["fixed"], (("fixed",),), [("fixed",)], ("fixed", None), ("fixed", "fixed"),
                                   ("Fixed",), (" fixed",), ("fixed ",), (b"fixed",), ("",), (None,), (True,),
                                   ("change",), ("apart",), ("unlike",), ("same",), (self.ground,), (ARROW,)]:
            self.wrong(self.standing, thing)

    def test_other_lengths(self):
        for paper in self.papers:
            for more in (None, self.standing, [], self.whole):
                self.wrong(self.standing, paper + (more,))
            if len(paper) > 1:
                self.wrong(self.standing, paper[:-1])
                self.wrong(self.standing, paper[1:])
            self.wrong(self.standing, ())

    def test_other_first_words(self):
        for paper in self.papers:
            for word in ("Change", "apart ", "unlike!", "", None, True, 0, ("fixed",), ["fixed"], b"change",
                         self.standing, "fixed" if paper[0] != "fixed" else "change"):
                self.wrong(self.standing, (word,) + paper[1:])

    def test_lists_in_the_place_of_tuples(self):
        for paper in self.papers:
            self.wrong(self.standing, list(paper))
            self.wrong(self.standing, (paper,))
        tables = [list(table) for table in self.whole]
        self.wrong(self.standing, ("change", self.standing, tables, self.whole))
        self.wrong(self.standing, ("change", self.standing, self.whole, tables))

    def test_tuples_in_the_place_of_lists(self):
        self.wrong(self.standing, ("change", self.standing, tuple(self.whole), self.whole))
        self.wrong(self.standing, ("change", self.standing, self.whole, tuple(self.whole)))
        self.wrong(self.standing, ("apart", (self.standing,), self.whole, self.whole))
        self.wrong(self.standing, ("apart", self.standing, self.whole, self.whole))
        for table in ((1, 1, ([1],)), (1, 1, [(1,)]), (1, 1, ((1,),))):
            self.wrong(self.standing, ("change", self.standing, [table, self.whole[1]], self.whole))
            self.wrong(self.standing, ("apart", [self.standing], self.whole, [self.whole[0], table]))

    def test_other_things_in_each_place(self):
        for paper in self.papers:
            for place in range(1, len(paper)):
                for thing in ODD_THINGS + [5, self.ground, ARROW, Standing, [None], [[]], [0, 0], ["", ""],
                                           [self.standing, None]]:
                    spoiled = list(paper)
                    spoiled[place] = thing
                    self.wrong(self.standing, tuple(spoiled))

    def test_truths_and_texts_among_the_numbers(self):
        for number in (True, False, "1", None, [1], (1,), (1, 1), -4, 6, 5, b"1", 1 + 5 * 7):
            table = (1, 1, [[number]])
            for changes, backs in (([table, self.whole[1]], self.whole), (self.whole, [self.whole[0], table]),
                                   ([table] * 2, [table] * 2)):
                self.wrong(self.standing, ("change", self.standing, changes, backs))
                self.wrong(self.standing, ("apart", [self.standing], changes, backs))

    def test_fractions_that_are_none(self):
        ground = Ground(0)
        standing = part_of(ground, ARROW, [1, 1])
        whole = [unit(ground, 1), unit(ground, 1)]
        self.right(standing, ("change", standing, whole, whole))
        for number in (1, True, (True, 1), (1, True), (2, 2), (-1, -1), [1, 1], (1,), (1, 0), "1", None):
            spoiled = [(1, 1, [[number]])] * 2
            for changes, backs in ((spoiled, spoiled), (whole, spoiled), (spoiled, whole)):
                self.wrong(standing, ("change", standing, changes, backs))

    def test_tables_of_wrong_sizes(self):
        for table in ((0, 0, []), (2, 2, [[1, 0], [0, 1]]), (1, 2, [[1, 0]]), (2, 1, [[1], [0]]), (1, 1, [[1, 0]]),
                      (1, 1, [[1], [0]]), (True, 1, [[1]]), (1, True, [[1]]), (1, 1, [[]]), (1, 1, []), (1, 1),
                      (1, 1, [[1]], 0), (-1, 1, [[1]]), ("1", 1, [[1]]), (1, 1, [[1]], [[1]])):
            for tables in ([table, self.whole[1]], [self.whole[0], table], [table, table]):
                self.wrong(self.standing, ("change", self.standing, tables, self.whole))
                self.wrong(self.standing, ("change", self.standing, self.whole, tables))
                self.wrong(self.standing, ("change", self.standing, tables, tables))
                self.wrong(self.standing, ("apart", [self.standing], tables, tables))


class NothingIsChanged(Case):
    def test_nothing_handed_in_is_changed(self):
        chance = random.Random(41)
        for ground in GROUNDS:
            for drawing in good_drawings(41, 6, most=5):
                standing = standing_of(ground, chance, drawing)
                other = standing_of(ground, chance, drawing)
                papers = [change_paper(ground, chance, standing), apart_paper(standing), ("unlike", other, standing),
                          ("fixed",), ("change", other, [None], [[1]]), ["fixed", [1]]]
                for paper in papers:
                    before = copy.deepcopy(paper), fields(standing)
                    lets_by(standing, paper)
                    self.assertEqual(fields(standing), before[1])
                    self.held(paper, before[0])

    def held(self, paper, before):
        if isinstance(paper, Standing):
            self.assertEqual(fields(paper), fields(before))
        elif isinstance(paper, (list, tuple)):
            self.assertEqual(len(paper), len(before))
            for one, other in zip(paper, before):
                self.held(one, other)
        else:
            self.assertEqual(paper, before)


class KnowsNothingOfTheFinding(unittest.TestCase):
    def test_what_it_draws_from(self):
        """The checker, and all that it draws from, is apart from what finds parts and changes."""
        package = pathlib.Path(__file__).resolve().parent.parent / "limbtables"
        waiting, seen = ["papers"], set()
        while waiting:
            name = waiting.pop()
            if name not in seen:
                seen.add(name)
                tree = ast.parse((package / f"{name}.py").read_text())
                waiting += [node.module.split(".")[1] for node in tree.body if isinstance(node, ast.ImportFrom)]
        self.assertFalse(seen & {"mirrors", "parts", "apart", "alike", "others", "roots"})


if __name__ == "__main__":
    unittest.main()
