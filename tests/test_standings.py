"""Standings: made, the same, changed, and side by side [16], [17]."""

import copy
import random
import unittest

from drawn import samples
from limbtables.drawings import Drawing
from limbtables.errors import LimbError, NoChange, NoStanding
from limbtables.grounds import Ground
from limbtables.standings import Standing, changed, same, side_of
from limbtables.tables import back_of
from samples import (GROUNDS, HUGE, ODD_THINGS, empty, multiplied, sample, sample_changes, sample_tables,
                     sample_with_back, standing_of, table_of, unit)

ROW = Drawing(3, [(0, 1), (2, 1)])
FIVE = Ground(5)
FRACTIONS = Ground(0)
SIZES = [1, 2, 0]
TABLES = [(2, 1, [[3], [4]]), (2, 0, [[], []])]


def parts_of(standing):
    """All that makes a standing, by itself."""
    return (standing.ground.prime, standing.drawing.many, standing.drawing.arrows, standing.sizes, standing.tables)


def drawings(seed, count):
    for many, arrows in samples(seed, count):
        yield Drawing(many, arrows)


class Made(unittest.TestCase):
    def test_fields(self):
        chance = random.Random(1)
        for ground in GROUNDS:
            for drawing in drawings(1, 40):
                sizes = [chance.randint(0, 4) for _ in range(drawing.many)]
                tables = sample_tables(ground, chance, drawing, sizes)
                standing = Standing(ground, drawing, sizes, tables)
                self.assertIs(standing.ground, ground)
                self.assertIs(standing.drawing, drawing)
                self.assertEqual(standing.sizes, sizes)
                self.assertEqual(standing.tables, tables)
                self.assertIsInstance(standing.sizes, list)
                self.assertIsInstance(standing.tables, list)
                self.assertTrue(all(isinstance(table, tuple) for table in standing.tables))

    def test_edges(self):
        for ground in GROUNDS:
            Standing(ground, Drawing(1, []), [0], [])
            Standing(ground, Drawing(1, []), [40], [])
            Standing(ground, Drawing(1, [(0, 0)]), [0], [(0, 0, [])])
            Standing(ground, Drawing(2, [(0, 1)]), [0, 3], [(3, 0, [[], [], []])])
            Standing(ground, Drawing(2, [(0, 1)]), [3, 0], [(0, 3, [])])
            Standing(ground, Drawing(2, [(0, 1)]), [24, 16], [empty(ground, 16, 24)])
            Standing(ground, Drawing(2, [(0, 1), (0, 1), (1, 0)]), [1, 2],
                     [empty(ground, 2, 1), empty(ground, 2, 1), empty(ground, 1, 2)])
        Standing(FRACTIONS, Drawing(1, [(0, 0)]), [1], [(1, 1, [[(HUGE, HUGE - 1)]])])
        Standing(FRACTIONS, Drawing(1, [(0, 0)]), [1], [(1, 1, [[(-HUGE, 10)]])])

    def test_copied_to_the_bottom(self):
        sizes, tables = list(SIZES), copy.deepcopy(TABLES)
        standing = Standing(FIVE, ROW, sizes, tables)
        self.assertIsNot(standing.sizes, sizes)
        self.assertIsNot(standing.tables, tables)
        for mine, given in zip(standing.tables, tables):
            self.assertIsNot(mine[2], given[2])
            self.assertTrue(all(row is not other for row, other in zip(mine[2], given[2])))
        sizes[0] = 7
        sizes.append(1)
        tables[0][2][0][0] = 0
        tables[0][2].pop()
        tables[1] = None
        self.assertEqual((standing.sizes, standing.tables), (SIZES, TABLES))

    def test_table_handed_in_twice_is_copied_twice(self):
        table = unit(FIVE, 2)
        standing = Standing(FIVE, Drawing(2, [(0, 1), (0, 1)]), [2, 2], [table, table])
        self.assertIsNot(standing.tables[0][2], standing.tables[1][2])
        self.assertIsNot(standing.tables[0][2][0], standing.tables[1][2][0])


class MadeOfOtherThings(unittest.TestCase):
    def refused(self, ground, drawing, sizes, tables):
        before = repr((sizes, tables))
        with self.subTest(before), self.assertRaises(NoStanding) as caught:
            Standing(ground, drawing, sizes, tables)
        self.assertIsInstance(caught.exception, LimbError)
        self.assertEqual(repr((sizes, tables)), before)

    def test_sizes(self):
        self.assertEqual(Standing(FIVE, ROW, SIZES, TABLES).sizes, SIZES)
        for sizes in [[], [1], [1, 2], [1, 2, 0, 0], [1, 2, 0, None], (1, 2, 0), "120", [1, 2, -1], [-1, 2, 0],
                      [1, 2, False], [True, 2, 0], [True, True, True], [1, 2, "0"], [1, 2, None], [1, 2, [0]],
                      [1, 2, (0,)], [[1, 2, 0]], [1, [2, 0]], ([1, 2, 0],), [1, 2, HUGE], [-HUGE, 2, 0]]:
            self.refused(FIVE, ROW, sizes, TABLES)
        for sizes in ODD_THINGS:
            self.refused(FIVE, ROW, sizes, TABLES)

    def test_sizes_that_no_table_asks(self):
        """Points without arrows: no table speaks of their sizes."""
        bare = Drawing(2, [])
        Standing(FIVE, bare, [0, 5], [])
        for sizes in [[-1, 0], [0, -HUGE], [0, True], [False, 0], [0], [0, 0, 0], (0, 0), [0, None], [0, "1"], [0, [1]],
                      None, 0, "", {0: 0, 1: 0}]:
            self.refused(FIVE, bare, sizes, [])

    def test_number_of_tables(self):
        for tables in [[], TABLES[:1], TABLES + [(0, 0, [])], TABLES * 2, tuple(TABLES), [TABLES], [TABLES[0], None],
                       TABLES[::-1], dict(enumerate(TABLES))]:
            self.refused(FIVE, ROW, SIZES, tables)
        for tables in ODD_THINGS:
            self.refused(FIVE, ROW, SIZES, tables)
        bare = Drawing(1, [])
        for tables in [[(0, 0, [])], [None], [[]], (), None, "", 0, False]:
            self.refused(FIVE, bare, [0], tables)

    def test_things_that_are_no_tables(self):
        drawing = Drawing(2, [(0, 1)])
        Standing(FIVE, drawing, [2, 1], [(1, 2, [[0, 4]])])
        for table in ODD_THINGS + [
                [1, 2, [[0, 4]]], (1, 2), (1, 2, [[0, 4]], 0), (1, 2, ([0, 4],)), (1, 2, [(0, 4)]), (1, 2, [[0], [4]]),
                (1, 2, [[0, 4], [0, 4]]), (1, 2, [[0]]), (1, 2, [[0, 4, 1]]), (1, 2, []), (1, 2, [0, 4]), (1, 2, None),
                (True, 2, [[0, 4]]), ("1", 2, [[0, 4]]), (1, None, [[0, 4]]), (1, 2, [[0, True]]), (1, 2, [[False, 4]]),
                (1, 2, [[0, "4"]]), (1, 2, [[0, None]]), (1, 2, [[0, [4]]]), (1, 2, "04"), [[0, 4]]]:
            self.refused(FIVE, drawing, [2, 1], [table])

    def test_height_and_width(self):
        drawing = Drawing(2, [(0, 1)])
        for ground in GROUNDS:
            for high in range(4):
                for wide in range(4):
                    sizes, table = [2, 1], empty(ground, high, wide)
                    if (high, wide) == (1, 2):
                        Standing(ground, drawing, sizes, [table])
                    else:
                        self.refused(ground, drawing, sizes, [table])

    def test_each_table_has_the_sizes_of_its_own_arrow(self):
        drawing = Drawing(3, [(0, 1), (1, 2), (2, 0)])
        sizes = [1, 2, 3]
        right = [empty(FIVE, 2, 1), empty(FIVE, 3, 2), empty(FIVE, 1, 3)]
        Standing(FIVE, drawing, sizes, right)
        for at, (high, wide, _) in enumerate(right):
            for other in (empty(FIVE, wide, high), empty(FIVE, high + 1, wide), empty(FIVE, high, wide + 1)):
                self.refused(FIVE, drawing, sizes, right[:at] + [other] + right[at + 1:])
        loop = Drawing(2, [(1, 1), (0, 1)])
        Standing(FIVE, loop, [1, 2], [empty(FIVE, 2, 2), empty(FIVE, 2, 1)])
        self.refused(FIVE, loop, [1, 2], [empty(FIVE, 1, 1), empty(FIVE, 2, 1)])
        self.refused(FIVE, loop, [1, 2], [empty(FIVE, 2, 1), empty(FIVE, 2, 2)])

    def test_sizes_of_nought_still_ask_their_table(self):
        drawing = Drawing(2, [(0, 1)])
        for table in [(0, 0, []), (0, 2, []), (2, 1, [[], []]), (2, 0, []), (2, 0, [[]]), (2, 0, [[], [], []]),
                      (1, 0, [[]]), (2, 0, [[], [0]]), (2, 0, [None, None]), None]:
            self.refused(FIVE, drawing, [0, 2], [table])
        Standing(FIVE, drawing, [0, 2], [(2, 0, [[], []])])

    def test_numbers_of_another_ground(self):
        drawing = Drawing(2, [(0, 1)])
        for ground, number in [(FIVE, 5), (FIVE, -1), (FIVE, HUGE), (FIVE, (1, 1)), (FIVE, (0, 1)), (FRACTIONS, 0),
                               (FRACTIONS, 1), (FRACTIONS, (2, 2)), (FRACTIONS, (0, 2)), (FRACTIONS, (1, -1)),
                               (FRACTIONS, (1, 0)), (FRACTIONS, (True, 1)), (FRACTIONS, (1, True)), (FRACTIONS, [1, 1]),
                               (FRACTIONS, True), (FRACTIONS, "1"), (Ground(2), 2), (Ground(2), True),
                               (Ground(97), 97)]:
            self.refused(ground, drawing, [1, 1], [(1, 1, [[number]])])


class Same(unittest.TestCase):
    def made(self, ground=FIVE, many=2, arrows=((0, 1), (0, 1), (1, 1)), sizes=(1, 2), tables=None):
        if tables is None:
            tables = [(2, 1, [[1], [2]]), (2, 1, [[3], [4]]), (2, 2, [[0, 1], [2, 3]])]
        return Standing(ground, Drawing(many, list(arrows)), list(sizes), tables)

    def both(self, one, other, due):
        self.assertIs(same(one, other), due)
        self.assertIs(same(other, one), due)

    def test_the_same(self):
        one = self.made()
        self.both(one, one, True)
        self.both(one, self.made(), True)
        self.both(one, self.made(ground=Ground(5)), True)
        for ground in GROUNDS:
            chance = random.Random(2)
            for drawing in drawings(2, 30):
                standing = standing_of(ground, chance, drawing)
                again = Standing(Ground(ground.prime), Drawing(drawing.many, list(drawing.arrows)),
                                 list(standing.sizes), copy.deepcopy(standing.tables))
                self.both(standing, again, True)

    def test_one_thing_alone(self):
        one = self.made()
        self.both(one, self.made(ground=Ground(7)), False)
        self.both(one, self.made(arrows=[(0, 1), (0, 1)], tables=one.tables[:2]), False)
        self.both(one, self.made(many=3, sizes=[1, 2, 0]), False)
        table = (2, 2, [[1, 1], [2, 2]])
        square = [table, table, table]
        two = self.made(sizes=[2, 2], tables=square)
        self.both(two, self.made(arrows=[(0, 1), (1, 0), (1, 1)], sizes=[2, 2], tables=square), False)
        self.both(two, self.made(arrows=[(0, 1), (1, 1), (0, 1)], sizes=[2, 2], tables=square), False)
        for at in range(3):
            for place in range(2):
                tables = copy.deepcopy(one.tables)
                tables[at][2][place][0] = (tables[at][2][place][0] + 1) % 5
                self.both(one, self.made(tables=tables), False)

    def test_sizes_alone(self):
        bare = Drawing(3, [])
        one = Standing(FIVE, bare, [1, 2, 3], [])
        self.both(one, Standing(FIVE, bare, [1, 2, 3], []), True)
        for sizes in ([0, 2, 3], [1, 3, 3], [1, 2, 4], [2, 1, 3]):
            self.both(one, Standing(FIVE, bare, sizes, []), False)

    def test_points_alone(self):
        self.both(Standing(FIVE, Drawing(2, []), [0, 0], []), Standing(FIVE, Drawing(1, []), [0], []), False)

    def test_grounds_alone(self):
        """Without numbers only the ground's number tells two apart."""
        found = [Standing(ground, ROW, [0, 2, 0], [(2, 0, [[], []])] * 2) for ground in GROUNDS]
        for one in found:
            for other in found:
                self.assertIs(same(one, other), one is other)

    def test_fractions(self):
        drawing = Drawing(1, [(0, 0)])
        made = [Standing(FRACTIONS, drawing, [1], [(1, 1, [[number]])])
                for number in [(0, 1), (1, 1), (-1, 1), (1, 2), (2, 1), (HUGE, 1), (HUGE - 1, 1), (1, HUGE)]]
        for one in made:
            for other in made:
                self.assertIs(same(one, other), one is other)


class Changed(unittest.TestCase):
    def test_held_against_products(self):
        chance = random.Random(3)
        for ground in GROUNDS:
            for drawing in drawings(3, 40):
                standing = standing_of(ground, chance, drawing)
                changes = sample_changes(ground, chance, standing)
                found = changed(standing, changes)
                self.assertIsInstance(found, Standing)
                self.assertEqual(parts_of(found)[:4], parts_of(standing)[:4])
                for (tail, head), table, new in zip(drawing.arrows, standing.tables, found.tables):
                    # The head's change times the new table is the old table times the tail's change.
                    self.assertEqual(multiplied(ground, changes[head], new), multiplied(ground, table, changes[tail]))
                    back = back_of(ground, changes[head])
                    self.assertEqual(new, multiplied(ground, multiplied(ground, back, table), changes[tail]))

    def test_by_hand(self):
        standing = Standing(FIVE, Drawing(2, [(0, 1)]), [1, 1], [(1, 1, [[3]])])
        self.assertEqual(changed(standing, [(1, 1, [[2]]), (1, 1, [[1]])]).tables, [(1, 1, [[1]])])
        self.assertEqual(changed(standing, [(1, 1, [[1]]), (1, 1, [[2]])]).tables, [(1, 1, [[4]])])
        loop = Standing(FIVE, Drawing(1, [(0, 0)]), [2], [(2, 2, [[0, 1], [0, 0]])])
        self.assertEqual(changed(loop, [(2, 2, [[0, 1], [1, 0]])]).tables, [(2, 2, [[0, 0], [1, 0]])])
        self.assertEqual(changed(loop, [(2, 2, [[2, 0], [0, 1]])]).tables, [(2, 2, [[0, 3], [0, 0]])])
        half = Standing(FRACTIONS, Drawing(2, [(0, 1)]), [1, 1], [(1, 1, [[(1, 2)]])])
        self.assertEqual(changed(half, [(1, 1, [[(HUGE, 1)]]), (1, 1, [[(-3, 1)]])]).tables,
                         [(1, 1, [[(-HUGE // 3, 2)]])])

    def test_plain_changes_lead_to_the_same(self):
        chance = random.Random(4)
        for ground in GROUNDS:
            for drawing in drawings(4, 20):
                standing = standing_of(ground, chance, drawing)
                found = changed(standing, [unit(ground, size) for size in standing.sizes])
                self.assertIs(same(standing, found), True)
                self.assertIsNot(found, standing)

    def test_backs_lead_home_and_products_lead_on(self):
        chance = random.Random(5)
        for ground in GROUNDS:
            for drawing in drawings(5, 20):
                standing = standing_of(ground, chance, drawing)
                first = sample_changes(ground, chance, standing)
                second = sample_changes(ground, chance, standing)
                there = changed(standing, first)
                self.assertIs(same(changed(there, [back_of(ground, change) for change in first]), standing), True)
                both = [multiplied(ground, one, other) for one, other in zip(first, second)]
                self.assertIs(same(changed(there, second), changed(standing, both)), True)

    def test_large_one(self):
        chance = random.Random(6)
        for ground in (FIVE, FRACTIONS):
            drawing = Drawing(2, [(0, 1)])
            standing = Standing(ground, drawing, [24, 16], [sample(ground, chance, 16, 24)])
            changes = sample_changes(ground, chance, standing)
            found = changed(standing, changes)
            self.assertEqual(multiplied(ground, changes[1], found.tables[0]),
                             multiplied(ground, standing.tables[0], changes[0]))

    def refused(self, standing, changes):
        before = repr(changes)
        with self.subTest(before), self.assertRaises(NoChange) as caught:
            changed(standing, changes)
        self.assertIsInstance(caught.exception, LimbError)
        self.assertEqual(repr(changes), before)

    def test_too_few_or_too_many(self):
        standing = Standing(FIVE, ROW, SIZES, TABLES)
        right = [unit(FIVE, size) for size in SIZES]
        changed(standing, right)
        for changes in [right[:2], right[1:], [], right + [unit(FIVE, 0)], right * 2, tuple(right), [right],
                        dict(enumerate(right))] + ODD_THINGS:
            self.refused(standing, changes)

    def test_not_square_or_of_another_height(self):
        standing = Standing(FIVE, ROW, SIZES, TABLES)
        right = [unit(FIVE, size) for size in SIZES]
        for at, size in enumerate(SIZES):
            for high in range(4):
                for wide in range(4):
                    if (high, wide) != (size, size):
                        table = (high, wide, [[int(i == j) for j in range(wide)] for i in range(high)])
                        self.refused(standing, right[:at] + [table] + right[at + 1:])

    def test_without_a_back(self):
        chance = random.Random(7)
        for ground in GROUNDS:
            for many in (1, 2, 3):
                drawing = Drawing(3, [(0, 1), (1, 1)])
                standing = Standing(ground, drawing, [many] * 3, [sample(ground, chance, many, many) for _ in range(2)])
                # At a tail, at a head, and at a point without arrows.
                for at in range(3):
                    changes = sample_changes(ground, chance, standing)
                    changes[at] = empty(ground, many, many)
                    self.refused(standing, changes)
                    changes[at] = sample_with_back(ground, chance, many)
                    changes[at][2][0] = list(changes[at][2][-1]) if many > 1 else [ground.number(0)]
                    self.refused(standing, changes)
        self.refused(Standing(Ground(2), Drawing(1, []), [2], []), [(2, 2, [[1, 1], [1, 1]])])

    def test_back_hangs_on_the_ground(self):
        rows = [[1, 2], [3, 1]]
        for prime in (2, 3, 5, 7):
            ground = Ground(prime)
            standing = Standing(ground, Drawing(1, []), [2], [])
            changes = [table_of(ground, 2, 2, rows)]
            if prime == 5:
                self.refused(standing, changes)
            else:
                self.assertIs(same(changed(standing, changes), standing), True)

    def test_of_another_kind(self):
        standing = Standing(FIVE, Drawing(2, [(0, 1)]), [1, 1], [(1, 1, [[3]])])
        right = (1, 1, [[2]])
        changed(standing, [right, right])
        for table in ODD_THINGS + [2, [1, 1, [[2]]], (1, 1, [(2,)]), (1, 1, ([2],)), (1, 1, [[True]]), (1, 1, [["2"]]),
                                   (1, 1, [[None]]), (1, 1, [[5]]), (1, 1, [[-1]]), (1, 1, [[(2, 1)]]), (1, 1, [[]]),
                                   (1, 1, []), (1, 1, [2]), (True, True, [[2]]), (1, 1), (1, 1, [[2]], 1), (1, 1, "2")]:
            self.refused(standing, [table, right])
            self.refused(standing, [right, table])
        half = Standing(FRACTIONS, Drawing(1, []), [1], [])
        changed(half, [(1, 1, [[(-1, 2)]])])
        for number in [1, True, (2, 2), (1, -2), (1, 0), (True, 1), [1, 2], "1", None]:
            self.refused(half, [(1, 1, [[number]])])


class SideBySide(unittest.TestCase):
    def test_held_against_places(self):
        chance = random.Random(8)
        for ground in GROUNDS:
            for drawing in drawings(8, 30):
                for many in (1, 2, 3, 4):
                    given = [standing_of(ground, chance, drawing, 2) for _ in range(many)]
                    found = side_of(ground, drawing, given)
                    self.assertIsInstance(found, Standing)
                    self.assertIs(found.ground, ground)
                    self.assertIs(found.drawing, drawing)
                    self.assertEqual(found.sizes, [sum(sizes) for sizes in zip(*[one.sizes for one in given])])
                    for at, (tail, head) in enumerate(drawing.arrows):
                        self.assertEqual(found.tables[at], self.corner(ground, tail, head, at, given))

    def corner(self, ground, tail, head, at, given):
        """The tables of an arrow along the corner, number by number."""
        high, wide = sum(one.sizes[head] for one in given), sum(one.sizes[tail] for one in given)
        table = empty(ground, high, wide)
        below = behind = 0
        for one in given:
            for i in range(one.sizes[head]):
                for j in range(one.sizes[tail]):
                    table[2][below + i][behind + j] = one.tables[at][2][i][j]
            below += one.sizes[head]
            behind += one.sizes[tail]
        return table

    def test_order(self):
        drawing = Drawing(2, [(0, 1)])
        one = Standing(FIVE, drawing, [1, 0], [(0, 1, [])])
        other = Standing(FIVE, drawing, [1, 1], [(1, 1, [[3]])])
        self.assertEqual(side_of(FIVE, drawing, [one, other]).tables, [(1, 2, [[0, 3]])])
        self.assertEqual(side_of(FIVE, drawing, [other, one]).tables, [(1, 2, [[3, 0]])])

    def test_one_and_none_at_all(self):
        chance = random.Random(9)
        for ground in GROUNDS:
            for drawing in drawings(9, 20):
                nothing = side_of(ground, drawing, [])
                self.assertEqual(nothing.sizes, [0] * drawing.many)
                self.assertEqual(nothing.tables, [(0, 0, [])] * len(drawing.arrows))
                self.assertIs(nothing.ground, ground)
                self.assertIs(nothing.drawing, drawing)
                one = standing_of(ground, chance, drawing)
                alone = side_of(ground, drawing, [one])
                self.assertIs(same(alone, one), True)
                self.assertIsNot(alone, one)
                self.assertIs(same(side_of(ground, drawing, [nothing, one, nothing]), one), True)

    def test_one_standing_twice(self):
        chance = random.Random(10)
        one = standing_of(FIVE, chance, ROW)
        again = Standing(Ground(5), Drawing(3, list(ROW.arrows)), one.sizes, one.tables)
        self.assertIs(same(side_of(FIVE, ROW, [one, one]), side_of(FIVE, ROW, [one, again])), True)

    def test_unlike_ones_are_refused(self):
        nothing = side_of(FIVE, ROW, [])
        others = [side_of(Ground(7), ROW, []), side_of(FRACTIONS, ROW, []), side_of(FIVE, Drawing(3, []), []),
                  side_of(FIVE, Drawing(4, ROW.arrows), []), side_of(FIVE, Drawing(3, ROW.arrows[::-1]), []),
                  side_of(FIVE, Drawing(3, [(0, 1), (1, 2)]), []), side_of(FIVE, Drawing(3, ROW.arrows[:1]), []),
                  side_of(FIVE, Drawing(3, ROW.arrows + [(0, 1)]), [])]
        for other in others:
            for given in ([other], [nothing, other], [other, nothing], [nothing, nothing, other]):
                with self.assertRaises(NoStanding):
                    side_of(FIVE, ROW, given)
            # All alike among themselves, but not with the ground and drawing handed in.
            with self.assertRaises(NoStanding):
                side_of(other.ground, other.drawing, [nothing])


if __name__ == "__main__":
    unittest.main()
