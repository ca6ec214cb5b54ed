"""Maps between standings, and the ties beyond [3], [18], [19]."""

import itertools
import random
import unittest

from drawn import KINDS, moved, samples
from limbtables.drawings import Drawing
from limbtables.errors import LimbError, NoStanding
from limbtables.forms import two_sided
from limbtables.grounds import Ground
from limbtables.standings import Standing, changed, count_maps, count_ties, maps, side_of
from limbtables.tables import back_of
from samples import (GROUNDS, HUGE, added, empty, multiplied, rank_of, sample, sample_changes, sample_of_rank,
                     standing_of, table_of, told, unit)

ARROW = Drawing(2, [(0, 1)])
LOOP = Drawing(1, [(0, 0)])


def differences(one, other, choice):
    """The differences on all arrows as one list of numbers, multiplied out."""
    found = []
    for at, (tail, head) in enumerate(one.drawing.arrows):
        there = multiplied(one.ground, other.tables[at], choice[tail])
        here = multiplied(one.ground, choice[head], one.tables[at])
        found += [number for row in added(one.ground, there, here, -1)[2] for number in row]
    return found


def choices_of_ones(one, other):
    """The choices of tables at the points that have a one at one place, else noughts."""
    ground = one.ground
    for point in range(one.drawing.many):
        for i in range(other.sizes[point]):
            for j in range(one.sizes[point]):
                choice = [empty(ground, high, wide) for high, wide in zip(other.sizes, one.sizes)]
                choice[point][2][i][j] = told(ground, 1)
                yield choice


def rank_of_lists(ground, lists, wide):
    return rank_of(ground, (len(lists), wide, lists))


def places(one, other):
    return sum(other.sizes[head] * one.sizes[tail] for tail, head in one.drawing.arrows)


def all_choices(one, other):
    """Every choice of tables at the points, of a prime."""
    shapes = list(zip(other.sizes, one.sizes))
    count = sum(high * wide for high, wide in shapes)
    for numbers in itertools.product(range(one.ground.prime), repeat=count):
        left = list(numbers)
        choice = []
        for high, wide in shapes:
            choice.append((high, wide, [[left.pop() for _ in range(wide)] for _ in range(high)]))
        yield choice


def flat(thing):
    return [number for table in thing for row in table[2] for number in row]


class Maps(unittest.TestCase):
    def hold(self, one, other):
        """Holds all that is told of two standings against a reckoning of its own."""
        ground = one.ground
        found = maps(one, other)
        self.assertIsInstance(found, list)
        nought = told(ground, 0)
        for thing in found:
            self.assertIsInstance(thing, list)
            self.assertEqual([table[:2] for table in thing], list(zip(other.sizes, one.sizes)))
            for high, wide, rows in thing:
                self.assertEqual([len(row) for row in rows], [wide] * high)
                self.assertTrue(all(ground.is_number(number) for row in rows for number in row))
            self.assertTrue(all(number == nought for number in differences(one, other, thing)))
        free = list(choices_of_ones(one, other))
        made = rank_of_lists(ground, [differences(one, other, choice) for choice in free], places(one, other))
        self.assertEqual(len(found), len(free) - made)
        self.assertEqual(rank_of_lists(ground, [flat(thing) for thing in found], len(free)), len(found))
        count, ties = count_maps(one, other), count_ties(one, other)
        self.assertIs(count.__class__, int)
        self.assertIs(ties.__class__, int)
        self.assertEqual(count, len(found))
        self.assertEqual(ties, places(one, other) - made)
        form = two_sided(one.drawing, one.sizes, other.sizes)
        self.assertEqual(count - ties, form)
        return count

    def test_all_sorts(self):
        chance = random.Random(1)
        for ground in GROUNDS:
            for many, arrows in samples(1, 40):
                drawing = Drawing(many, arrows)
                most = 3 if many < 5 else 2
                self.hold(standing_of(ground, chance, drawing, most), standing_of(ground, chance, drawing, most))

    def test_to_itself(self):
        chance = random.Random(2)
        for ground in GROUNDS:
            for many, arrows in samples(2, 25):
                drawing = Drawing(many, arrows)
                one = standing_of(ground, chance, drawing, 2)
                count = self.hold(one, one)
                self.assertEqual(count > 0, any(one.sizes))
                whole = [unit(ground, size) for size in one.sizes]
                self.assertTrue(all(number == told(ground, 0) for number in differences(one, one, whole)))

    def test_good_drawings(self):
        chance = random.Random(3)
        for ground in (Ground(0), Ground(2), Ground(7)):
            for _, (many, arrows) in KINDS:
                drawing = Drawing(many, moved(chance, many, arrows))
                self.hold(standing_of(ground, chance, drawing, 2), standing_of(ground, chance, drawing, 2))

    def test_several_arrows_of_the_same_ends_and_loops(self):
        chance = random.Random(4)
        for ground in GROUNDS:
            for many, arrows in [(1, [(0, 0)]), (1, [(0, 0)] * 2), (2, [(0, 1)] * 2), (2, [(0, 1)] * 9),
                                 (2, [(0, 1), (1, 0)]), (2, [(0, 0), (0, 1), (1, 1)]), (3, [(0, 1), (1, 2), (2, 0)])]:
                drawing = Drawing(many, arrows)
                for _ in range(4):
                    one = standing_of(ground, chance, drawing, 3)
                    self.hold(one, standing_of(ground, chance, drawing, 3))
                    self.hold(one, one)

    def test_sizes_of_nought(self):
        for ground in GROUNDS:
            nothing = side_of(ground, ARROW, [])
            tail = Standing(ground, ARROW, [1, 0], [(0, 1, [])])
            head = Standing(ground, ARROW, [0, 1], [(1, 0, [[]])])
            whole = Standing(ground, ARROW, [1, 1], [unit(ground, 1)])
            for one, other, count, ties in [
                    (nothing, nothing, 0, 0), (nothing, whole, 0, 0), (whole, nothing, 0, 0), (tail, tail, 1, 0),
                    (head, head, 1, 0), (tail, head, 0, 1), (head, tail, 0, 0), (whole, whole, 1, 0),
                    (tail, whole, 0, 0), (whole, tail, 1, 0), (head, whole, 1, 0), (whole, head, 0, 0)]:
                self.assertEqual(self.hold(one, other), count)
                self.assertEqual(count_maps(one, other), count)
                self.assertEqual(count_ties(one, other), ties)
            self.assertEqual(maps(nothing, whole), [])
            self.assertEqual(maps(tail, head), [])

    def test_without_arrows(self):
        for ground in GROUNDS:
            drawing = Drawing(2, [])
            one, other = Standing(ground, drawing, [2, 1], []), Standing(ground, drawing, [1, 3], [])
            self.assertEqual(self.hold(one, other), 5)
            self.assertEqual(count_ties(one, other), 0)

    def test_by_hand(self):
        for ground in GROUNDS:
            # What leads with a step: the numbers of it and of its square are all that it can be changed about with.
            step = Standing(ground, LOOP, [2], [table_of(ground, 2, 2, [[0, 1], [0, 0]])])
            self.assertEqual(self.hold(step, step), 2)
            self.assertEqual(count_ties(step, step), 2)
            noughts = Standing(ground, LOOP, [2], [empty(ground, 2, 2)])
            self.assertEqual(self.hold(noughts, noughts), 4)
            self.assertEqual(self.hold(noughts, step), 2)
            self.assertEqual(self.hold(step, noughts), 2)
            ones = Standing(ground, LOOP, [1], [unit(ground, 1)])
            still = Standing(ground, LOOP, [1], [empty(ground, 1, 1)])
            self.assertEqual(self.hold(ones, still), 0)
            self.assertEqual(count_ties(ones, still), 0)
            self.assertEqual(count_ties(still, still), 1)

    def test_which_way_a_map_leads(self):
        """A map's tables are as wide as the one's sizes and as high as the other's."""
        for ground in GROUNDS:
            one = Standing(ground, ARROW, [1, 2], [table_of(ground, 2, 1, [[1], [0]])])
            other = Standing(ground, ARROW, [3, 1], [table_of(ground, 1, 3, [[1, 0, 0]])])
            self.hold(one, other)
            self.hold(other, one)
            self.assertEqual([table[:2] for table in maps(one, other)[0]], [(3, 1), (1, 2)])
            self.assertEqual([table[:2] for table in maps(other, one)[0]], [(1, 3), (2, 1)])

    def test_numbers_of_thirty_figures(self):
        chance = random.Random(5)
        ground = Ground(0)
        for many, arrows in [(2, [(0, 1)]), (3, [(0, 1), (2, 1)]), (2, [(0, 1), (0, 1)]), (1, [(0, 0)])]:
            drawing = Drawing(many, arrows)
            for _ in range(3):
                made = []
                for _ in range(2):
                    sizes = [chance.randint(1, 3) for _ in range(many)]
                    made.append(Standing(ground, drawing, sizes, [self.huge(ground, chance, sizes[head], sizes[tail])
                                                                  for tail, head in arrows]))
                self.hold(*made)
                self.hold(made[0], made[0])

    def huge(self, ground, chance, high, wide):
        return (high, wide, [[ground.number(chance.randint(-HUGE, HUGE), chance.randint(1, HUGE))
                              for _ in range(wide)] for _ in range(high)])

    def test_sizes_that_come_to_forty(self):
        chance = random.Random(6)
        eight = [(0, 1), (1, 2), (3, 2), (3, 4), (5, 4), (5, 6), (2, 7)]
        for drawing, sizes in [(Drawing(8, [(k, k + 1) for k in range(7)]), [5] * 8), (ARROW, [24, 16]),
                               (Drawing(8, eight), [3, 5, 8, 7, 6, 5, 3, 3]), (Drawing(1, []), [40])]:
            for ground in (Ground(0), Ground(2), Ground(97)):
                one = Standing(ground, drawing, sizes, [sample(ground, chance, sizes[head], sizes[tail])
                                                        for tail, head in drawing.arrows])
                found = maps(one, one)
                self.assertEqual(len(found), count_maps(one, one))
                self.assertEqual(len(found) - count_ties(one, one), two_sided(drawing, sizes, sizes))
                nought = told(ground, 0)
                for thing in found[:3]:
                    self.assertTrue(all(number == nought for number in differences(one, one, thing)))


class Tried(unittest.TestCase):
    """All choices tried, by 2 and by 3."""

    def small(self, chance, prime):
        ground = Ground(prime)
        many, arrows = chance.choice([(1, []), (1, [(0, 0)]), (2, [(0, 1)]), (2, [(0, 1), (0, 1)]), (2, [(1, 0)]),
                                      (2, [(0, 0), (0, 1)]), (3, [(0, 1), (2, 1)]), (3, [(1, 0), (1, 2)]),
                                      (3, [(0, 1), (1, 2), (2, 0)])])
        drawing = Drawing(many, arrows)
        most = 8 if prime == 2 else 5
        while True:
            one, other = standing_of(ground, chance, drawing, 2), standing_of(ground, chance, drawing, 2)
            if sum(a * b for a, b in zip(one.sizes, other.sizes)) <= most:
                return one, other

    def test_all_maps(self):
        chance = random.Random(7)
        for prime in (2, 3):
            for _ in range(40):
                one, other = self.small(chance, prime)
                right = [flat(choice) for choice in all_choices(one, other)
                         if not any(differences(one, other, choice))]
                self.assertEqual(len(right), prime ** count_maps(one, other))
                self.assertEqual(sorted(right), self.sums(one, other))

    def sums(self, one, other):
        """The sums of the maps told, each times each number: all unlike, as each map is told in just one way."""
        found = [flat(thing) for thing in maps(one, other)]
        prime, size = one.ground.prime, sum(a * b for a, b in zip(one.sizes, other.sizes))
        return sorted([sum(times * numbers[k] for times, numbers in zip(given, found)) % prime for k in range(size)]
                      for given in itertools.product(range(prime), repeat=len(found)))

    def test_all_differences(self):
        chance = random.Random(8)
        for prime in (2, 3):
            for _ in range(40):
                one, other = self.small(chance, prime)
                lists = {tuple(differences(one, other, choice)) for choice in all_choices(one, other)}
                self.assertEqual(len(lists), prime ** (places(one, other) - count_ties(one, other)))


class Counts(unittest.TestCase):
    def test_changes_keep_counts(self):
        chance = random.Random(9)
        for ground in GROUNDS:
            for many, arrows in samples(9, 15):
                drawing = Drawing(many, arrows)
                one, other = standing_of(ground, chance, drawing, 2), standing_of(ground, chance, drawing, 2)
                new = changed(one, sample_changes(ground, chance, one))
                self.assertEqual(count_maps(new, other), count_maps(one, other))
                self.assertEqual(count_maps(other, new), count_maps(other, one))
                self.assertEqual(count_ties(new, other), count_ties(one, other))

    def test_changes_are_maps(self):
        """The changes that lead one to the other are a map from the other, with a back at each point."""
        chance = random.Random(10)
        for ground in GROUNDS:
            for many, arrows in samples(10, 15):
                one = standing_of(ground, chance, Drawing(many, arrows), 2)
                changes = sample_changes(ground, chance, one)
                new = changed(one, changes)
                nought = told(ground, 0)
                self.assertTrue(all(number == nought for number in differences(new, one, changes)))
                backs = [back_of(ground, change) for change in changes]
                self.assertTrue(all(number == nought for number in differences(one, new, backs)))

    def test_side_by_side_adds(self):
        chance = random.Random(11)
        for ground in GROUNDS:
            for many, arrows in samples(11, 15):
                drawing = Drawing(many, arrows)
                one, two, other = [standing_of(ground, chance, drawing, 2) for _ in range(3)]
                both = side_of(ground, drawing, [one, two])
                self.assertEqual(count_maps(both, other), count_maps(one, other) + count_maps(two, other))
                self.assertEqual(count_maps(other, both), count_maps(other, one) + count_maps(other, two))
                self.assertEqual(count_ties(both, other), count_ties(one, other) + count_ties(two, other))

    def test_ground_tells(self):
        """A number that a prime divides is nought by it."""
        for prime, due in [(0, 0), (2, 0), (3, 1), (7, 0)]:
            ground = Ground(prime)
            one = Standing(ground, LOOP, [1], [table_of(ground, 1, 1, [[1]])])
            other = Standing(ground, LOOP, [1], [table_of(ground, 1, 1, [[4]])])
            self.assertEqual(count_maps(one, other), due)
            self.assertEqual(count_ties(one, other), due)

    def test_ranks_of_one_arrow(self):
        """Maps of one arrow's standings hang on sizes and ranks alone."""
        chance = random.Random(12)
        for ground in GROUNDS:
            for _ in range(20):
                sizes, others = [chance.randint(0, 4) for _ in range(2)], [chance.randint(0, 4) for _ in range(2)]
                table = sample_of_rank(ground, chance, sizes[1], sizes[0], chance.randint(0, 3))
                other_table = sample_of_rank(ground, chance, others[1], others[0], chance.randint(0, 3))
                rank, other_rank = rank_of(ground, table), rank_of(ground, other_table)
                one, other = Standing(ground, ARROW, sizes, [table]), Standing(ground, ARROW, others, [other_table])
                due = (sizes[0] - rank) * (others[1] - other_rank)
                self.assertEqual(count_ties(one, other), due)


class Unlike(unittest.TestCase):
    def test_unlike_ground_or_drawing(self):
        five = Ground(5)
        drawing = Drawing(3, [(0, 1), (2, 1)])
        one = side_of(five, drawing, [])
        others = [side_of(Ground(7), drawing, []), side_of(Ground(0), drawing, []), side_of(five, Drawing(3, []), []),
                  side_of(five, Drawing(4, drawing.arrows), []), side_of(five, Drawing(3, drawing.arrows[::-1]), []),
                  side_of(five, Drawing(3, [(0, 1), (1, 2)]), []), side_of(five, Drawing(3, drawing.arrows[:1]), []),
                  side_of(five, Drawing(2, [(0, 1)]), [])]
        for other in others:
            for deed in (maps, count_maps, count_ties):
                for given in ((one, other), (other, one)):
                    with self.assertRaises(NoStanding) as caught:
                        deed(*given)
                    self.assertIsInstance(caught.exception, LimbError)

    def test_alike_by_number_and_by_points_and_arrows(self):
        one = Standing(Ground(5), Drawing(2, [(0, 1)]), [1, 1], [(1, 1, [[2]])])
        other = Standing(Ground(5), Drawing(2, [(0, 1)]), [1, 1], [(1, 1, [[3]])])
        self.assertEqual(len(maps(one, other)), 1)
        self.assertEqual(count_maps(one, other), 1)
        self.assertEqual(count_ties(one, other), 0)


if __name__ == "__main__":
    unittest.main()
