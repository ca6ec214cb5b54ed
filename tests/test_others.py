"""Members of drawings that are not good, and bars of rows of arrows [25], [26], [3]."""

import itertools
import random
import unittest

from drawn import KINDLESS, KINDS, moved, row, samples, several, star
from limbtables.apart import counts
from limbtables.drawings import Drawing
from limbtables.errors import LimbError, NoKind
from limbtables.grounds import Ground
from limbtables.others import bars, member
from limbtables.parts import part_of
from limbtables.standings import Standing, changed, count_maps, maps, side_of
from reckoned import good_drawings, maps_counted, nothing_on, worth_of
from samples import (GROUNDS, HUGE, PRIMES, added, empty, multiplied, rank_of, sample_changes, sample_tables,
                     standing_of, unit)

MORE = [
    # More arrows than a ring or such a tree needs.
    (1, [(0, 0)] * 9), (2, [(0, 1)] * 9), (2, [(0, 1), (1, 0), (0, 0), (1, 1)]), (3, [(0, 1), (1, 2), (0, 2), (2, 1)]),
    (5, star(1, 1, 1, 1)[1] + [(1, 2)]), (5, star(1, 1, 1, 1)[1] + [(0, 1), (2, 2)]), (6, star(1, 1, 1, 1, 1)[1]),
    (7, star(2, 2, 2)[1] + [(0, 1)]), (8, star(1, 3, 3)[1] + [(7, 3)]), (4, list(itertools.combinations(range(4), 2))),
    # A good piece beside one that is not.
    (4, [(0, 1), (2, 3), (2, 3)]), (2, [(1, 1)]), (8, star(1, 1, 1, 1)[1] + [(5, 6), (6, 7)]), (3, [(2, 2), (0, 1)]),
    (8, star(2, 2, 2)[1]), (6, [(0, 1), (1, 2), (3, 4), (4, 5), (5, 3)]),
    # Two pieces that are not good.
    (4, [(0, 1), (0, 1), (2, 3), (3, 2)]),
]


def not_good(seed):
    """Drawings that are not good, arrows either way."""
    chance = random.Random(seed)
    for many, arrows in KINDLESS + MORE:
        yield Drawing(many, arrows)
        yield Drawing(many, moved(chance, many, arrows))


def numbers_of(ground):
    if ground.prime:
        return list(range(ground.prime))
    return [(0, 1), (1, 1), (-1, 1), (2, 1), (1, 2), (-7, 3), (HUGE, 1), (1, HUGE), (-HUGE, HUGE - 1)]


def has_back_somewhere(ground, one, other):
    """Whether one of all maps has a back at each point: tried one by one."""
    given = maps(one, other)
    for times in itertools.product(range(ground.prime), repeat=len(given)):
        found = [empty(ground, high, wide) for high, wide in zip(other.sizes, one.sizes)]
        for often, one_map in zip(times, given):
            found = [added(ground, table, more, often) for table, more in zip(found, one_map)]
        if all(table[0] == table[1] == rank_of(ground, table) for table in found):
            return True
    return False


class Members(unittest.TestCase):
    def check(self, ground, drawing, found):
        self.assertIs(type(found), Standing)
        self.assertEqual(found.ground.prime, ground.prime)
        self.assertEqual((found.drawing.many, found.drawing.arrows), (drawing.many, drawing.arrows))
        self.assertLessEqual(worth_of(drawing, found.sizes), 0)
        self.assertEqual(count_maps(found, found), 1)
        self.assertTrue(any(found.sizes))

    def test_each_number(self):
        for drawing in not_good(1):
            sizes = None
            for ground in (Ground(0), Ground(2), Ground(3), Ground(5)):
                for number in numbers_of(ground):
                    found = member(ground, drawing, number)
                    self.check(ground, drawing, found)
                    sizes = sizes or found.sizes
                    self.assertEqual(found.sizes, sizes)

    def test_maps_reckoned_anew(self):
        for drawing in not_good(2):
            for ground in (Ground(0), Ground(2)):
                for number in numbers_of(ground)[:2]:
                    found = member(ground, drawing, number)
                    if sum(found.sizes) < 14:
                        self.assertEqual(maps_counted(found, found), 1)

    def test_no_two_are_alike_by_small_primes(self):
        for drawing in not_good(3):
            for ground in (Ground(2), Ground(3)):
                found = [member(ground, drawing, number) for number in numbers_of(ground)]
                for one, other in itertools.permutations(found, 2):
                    self.assertFalse(has_back_somewhere(ground, one, other))
                self.assertTrue(has_back_somewhere(ground, found[0], found[0]))

    def test_no_two_are_alike_by_any_ground(self):
        """Were two of them alike, there would be just one map, but for numbers, and it had a back at each point."""
        for drawing in not_good(4):
            for ground in (Ground(0), Ground(7)):
                found = [member(ground, drawing, number) for number in numbers_of(ground)]
                for one, other in itertools.permutations(found, 2):
                    given = maps(one, other)
                    if len(given) == 1:
                        self.assertTrue(any(rank_of(ground, table) < max(table[:2]) for table in given[0]))

    def test_drawings_of_all_sorts(self):
        asked = 0
        for many, arrows in samples(5, 150):
            drawing = Drawing(many, arrows)
            if None in drawing.kinds():
                asked += 1
                sizes = {tuple(member(ground, drawing, ground.number(5)).sizes) for ground in GROUNDS}
                self.assertEqual(len(sizes), 1)
                for ground in (Ground(2), Ground(0)):
                    self.check(ground, drawing, member(ground, drawing, ground.number(1)))
                one, other = [member(Ground(2), drawing, number) for number in (0, 1)]
                self.assertFalse(has_back_somewhere(Ground(2), one, other))
        self.assertGreater(asked, 60)

    def test_each_way_of_the_arrows(self):
        for many, arrows in (star(1, 1, 1, 1), (3, [(0, 1), (1, 2), (2, 0)]), (2, [(0, 1), (0, 1)])):
            for ways in range(2 ** len(arrows)):
                pointed = [arrow if ways >> at & 1 else arrow[::-1] for at, arrow in enumerate(arrows)]
                drawing = Drawing(many, pointed)
                found = [member(Ground(2), drawing, number) for number in (0, 1)]
                for one in found:
                    self.check(Ground(2), drawing, one)
                self.assertFalse(has_back_somewhere(Ground(2), *found))

    def test_each_prime(self):
        for prime in PRIMES:
            ground = Ground(prime)
            for drawing in (Drawing(1, [(0, 0)]), Drawing(5, star(1, 1, 1, 1)[1])):
                for number in {0, 1, prime - 1}:
                    self.check(ground, drawing, member(ground, drawing, number))

    def test_refused(self):
        for drawing in good_drawings(6, 40):
            for ground in (Ground(0), Ground(2)):
                with self.assertRaises(NoKind) as caught:
                    member(ground, drawing, ground.number(1))
                self.assertIsInstance(caught.exception, LimbError)


def row_of_arrows(chance, many, linear=False):
    """A row of arrows, its arrows in any order."""
    arrows = row(many)[1]
    if not linear:
        arrows = [arrow if chance.random() < 0.5 else arrow[::-1] for arrow in arrows]
    chance.shuffle(arrows)
    return Drawing(many, arrows)


class Bars(unittest.TestCase):
    def test_the_counts(self):
        chance = random.Random(11)
        for ground in GROUNDS:
            for many in range(1, 9):
                for _ in range(4):
                    standing = standing_of(ground, chance, row_of_arrows(chance, many), 4)
                    found = bars(standing)
                    self.assertIs(type(found), list)
                    self.assertTrue(all(type(bar) is tuple and len(bar) == 3 and bar[2] > 0 for bar in found))
                    self.assertEqual(found, sorted(found))
                    roots = [([int(first <= k <= last) for k in range(many)], often) for first, last, often in found]
                    self.assertEqual(sorted(roots), counts(standing))

    def test_as_they_were_built(self):
        chance = random.Random(12)
        for ground in GROUNDS:
            for many in range(1, 9):
                drawing = row_of_arrows(chance, many)
                due = {}
                for _ in range(chance.randint(0, 5)):
                    first = chance.randrange(many)
                    due[first, chance.randrange(first, many)] = chance.randint(1, 2)
                parts = []
                for (first, last), often in due.items():
                    root = [int(first <= k <= last) for k in range(many)]
                    parts += [part_of(ground, drawing, root)] * often
                whole = side_of(ground, drawing, parts)
                whole = changed(whole, sample_changes(ground, chance, whole))
                self.assertEqual(bars(whole), sorted((a, b, often) for (a, b), often in due.items()))

    def test_ranks_of_products(self):
        chance = random.Random(13)
        for ground in GROUNDS:
            for many in range(1, 9):
                for _ in range(3):
                    drawing = row_of_arrows(chance, many, linear=True)
                    standing = standing_of(ground, chance, drawing, 4)
                    tables = {tail: table for (tail, head), table in zip(drawing.arrows, standing.tables)}
                    found = bars(standing)
                    for a in range(many):
                        product = unit(ground, standing.sizes[a])
                        for b in range(a, many):
                            long = sum(often for first, last, often in found if first <= a and last >= b)
                            self.assertEqual(long, rank_of(ground, product))
                            if b + 1 < many:
                                product = multiplied(ground, tables[b], product)

    def test_edges(self):
        for ground in GROUNDS:
            self.assertEqual(bars(Standing(ground, Drawing(1, []), [0], [])), [])
            self.assertEqual(bars(Standing(ground, Drawing(1, []), [40], [])), [(0, 0, 40)])
            arrow = Drawing(2, [(1, 0)])
            self.assertEqual(bars(nothing_on(ground, arrow, [0, 0])), [])
            self.assertEqual(bars(nothing_on(ground, arrow, [2, 3])), [(0, 0, 2), (1, 1, 3)])
            self.assertEqual(bars(Standing(ground, arrow, [2, 2], [unit(ground, 2)])), [(0, 1, 2)])
            long = Drawing(3, [(1, 2), (0, 1)])
            self.assertEqual(bars(nothing_on(ground, long, [2, 0, 3])), [(0, 0, 2), (2, 2, 3)])

    def test_sorted_by_first_and_last(self):
        two = Ground(2)
        drawing = Drawing(3, [(0, 1), (1, 2)])
        parts = [part_of(two, drawing, root) for root in ([1, 1, 1], [1, 0, 0], [0, 1, 1], [0, 0, 1], [1, 1, 0])]
        whole = side_of(two, drawing, parts + parts[:1])
        self.assertEqual(bars(whole), [(0, 0, 1), (0, 1, 1), (0, 2, 2), (1, 2, 1), (2, 2, 1)])

    def test_refused(self):
        chance = random.Random(14)
        others = [(2, []), (3, [(0, 1)]), (3, [(0, 2), (2, 1)]), (3, [(0, 1), (0, 2)]), (2, [(0, 1), (0, 1)]),
                  (2, [(0, 1), (1, 0)]), (3, [(0, 1), (1, 2), (1, 2)]), (3, [(0, 1), (1, 2), (2, 0)]),
                  (3, [(0, 1), (1, 2), (0, 2)]), (3, [(0, 1), (0, 1)]), (1, [(0, 0)]), (2, [(0, 1), (0, 0)]),
                  (2, [(0, 0)]), (4, [(0, 1), (2, 3)]), (4, [(0, 1), (1, 2), (1, 3)]), (4, [(1, 0), (0, 3), (3, 2)]),
                  (4, [(0, 1), (1, 2), (2, 3), (3, 0)])]
        others += [shape for kind, shape in KINDS if kind[0] != "A"] + KINDLESS
        others += [several(chance, [row(2), row(3)])]
        for many, arrows in others:
            drawing = Drawing(many, arrows)
            for ground in (Ground(0), Ground(3)):
                for standing in (nothing_on(ground, drawing, [0] * many), standing_of(ground, chance, drawing)):
                    with self.assertRaises(NoKind) as caught:
                        bars(standing)
                    self.assertIsInstance(caught.exception, LimbError)


class BarsHangOnTheStandingAlone(unittest.TestCase):
    def test_changed(self):
        chance = random.Random(15)
        for ground in GROUNDS:
            for many in (2, 3, 5):
                drawing = row_of_arrows(chance, many)
                sizes = [chance.randint(0, 3) for _ in range(many)]
                standing = Standing(ground, drawing, sizes, sample_tables(ground, chance, drawing, sizes))
                again = changed(standing, sample_changes(ground, chance, standing))
                self.assertEqual(bars(standing), bars(again))


if __name__ == "__main__":
    unittest.main()
