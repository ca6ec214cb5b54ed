"""What the tests share: sample tables, and a reckoning of their own that asks nothing of the program."""

import random
from fractions import Fraction

from limbtables.grounds import Ground
from limbtables.standings import Standing

PRIMES = [p for p in range(2, 98) if all(p % k for k in range(2, p))]
GROUNDS = [Ground(prime) for prime in (0, 2, 3, 7, 97)]

# Things of many kinds that are no whole numbers, no tables, no arrows.
ODD_THINGS = [None, True, False, "", "0", "2", b"2", (), (2,), (0, 1), [], [2], [[0, 1]], {}, {2: 3}, set(), {2},
              frozenset(), range(2), len, object(), Ground, Ground(2)]

HUGE = 10 ** 30 - 1


def value(ground, number):
    """A number of the ground as Python reckons with it."""
    return Fraction(*number) if ground.prime == 0 else number


def values(ground, table):
    return [[value(ground, number) for number in row] for row in table[2]]


def told(ground, amount):
    """The number of the ground that a Fraction or a whole number stands for."""
    if ground.prime == 0:
        amount = Fraction(amount)
        return (amount.numerator, amount.denominator)
    return int(amount) % ground.prime


def table_of(ground, high, wide, rows):
    return (high, wide, [[told(ground, amount) for amount in row] for row in rows])


def multiplied(ground, one, other):
    """The product of two tables by the school's rule."""
    assert one[1] == other[0]
    ones, others = values(ground, one), values(ground, other)
    rows = [[sum(ones[i][k] * others[k][j] for k in range(one[1])) for j in range(other[1])] for i in range(one[0])]
    return table_of(ground, one[0], other[1], rows)


def unit(ground, many):
    return table_of(ground, many, many, [[int(i == j) for j in range(many)] for i in range(many)])


def empty(ground, high, wide):
    return table_of(ground, high, wide, [[0] * wide for _ in range(high)])


def divided(ground, a, b):
    return a / b if ground.prime == 0 else a * pow(b, -1, ground.prime) % ground.prime


def rank_of(ground, table):
    """The rank by sweeping downward alone."""
    rows = values(ground, table)
    found = 0
    for column in range(table[1]):
        lead = next((k for k in range(found, len(rows)) if rows[k][column]), None)
        if lead is None:
            continue
        rows[found], rows[lead] = rows[lead], rows[found]
        for k in range(found + 1, len(rows)):
            times = divided(ground, rows[k][column], rows[found][column])
            rows[k] = [a - times * b for a, b in zip(rows[k], rows[found])]
            if ground.prime:
                rows[k] = [a % ground.prime for a in rows[k]]
        found += 1
    return found


def amounts(ground, chance):
    """A small amount: a fraction, or a rest."""
    if ground.prime == 0:
        return Fraction(chance.randint(-6, 6), chance.choice([1, 1, 1, 2, 3, 4]))
    return chance.randrange(ground.prime)


def sample(ground, chance, high, wide):
    return table_of(ground, high, wide, [[amounts(ground, chance) for _ in range(wide)] for _ in range(high)])


def sample_of_rank(ground, chance, high, wide, most):
    """A table that is a product through so few numbers: its rank is at most that."""
    return multiplied(ground, sample(ground, chance, high, most), sample(ground, chance, most, wide))


def sample_with_back(ground, chance, many):
    """A square table with a back: a lower corner of ones times an upper one, rows moved about."""
    lower = unit(ground, many)
    upper = unit(ground, many)
    for i in range(many):
        for j in range(i):
            lower[2][i][j] = told(ground, amounts(ground, chance))
            upper[2][j][i] = told(ground, amounts(ground, chance))
    high, wide, rows = multiplied(ground, lower, upper)
    chance.shuffle(rows)
    return (high, wide, rows)


def many_tables(ground, seed):
    """Tables of all small sizes, of each rank that may be, some with rows and columns of noughts."""
    chance = random.Random(f"{seed} {ground.prime}")
    found = []
    for high in range(6):
        for wide in range(6):
            for most in range(min(high, wide) + 1):
                found.append(sample_of_rank(ground, chance, high, wide, most))
            found.append(empty(ground, high, wide))
            thin = sample(ground, chance, high, wide)
            for row in thin[2]:
                for k in range(wide):
                    if chance.random() < 0.6:
                        row[k] = told(ground, 0)
            found.append(thin)
    return found


def added(ground, one, other, times=1):
    """The one table plus the other, taken so many times."""
    pairs = zip(values(ground, one), values(ground, other))
    rows = [[a + times * b for a, b in zip(row, others)] for row, others in pairs]
    return table_of(ground, one[0], one[1], rows)


def sample_tables(ground, chance, drawing, sizes):
    """A table for each arrow, some of them of low rank."""
    found = []
    for tail, head in drawing.arrows:
        most = chance.randint(0, max(sizes[tail], sizes[head]))
        found.append(sample_of_rank(ground, chance, sizes[head], sizes[tail], most))
    return found


def standing_of(ground, chance, drawing, most=3):
    """A standing of this drawing, of sizes from 0 to the most."""
    sizes = [chance.randint(0, most) for _ in range(drawing.many)]
    return Standing(ground, drawing, sizes, sample_tables(ground, chance, drawing, sizes))


def sample_changes(ground, chance, standing):
    return [sample_with_back(ground, chance, size) for size in standing.sizes]


def wreck(thing):
    """Changes every list in a thing, the inmost first."""
    if isinstance(thing, (list, tuple)):
        for inner in thing:
            wreck(inner)
    if isinstance(thing, list):
        thing[:] = ["wrecked"] * (len(thing) + 1)


def lists_in(thing):
    """All lists in a thing, to the bottom."""
    found = [thing] if isinstance(thing, list) else []
    if isinstance(thing, (list, tuple)):
        for inner in thing:
            found += lists_in(inner)
    return found
