"""What the tests reckon of standings by themselves: led by changes, side by side, maps counted."""

import random

from drawn import KINDS, moved, several
from limbtables.drawings import Drawing
from limbtables.standings import Standing
from samples import added, empty, multiplied, rank_of, told


def leads(one, changes, sizes, tables):
    """Whether changes, each with a back, lead the one to these sizes and tables: multiplied out, without any back."""
    ground = one.ground
    if one.sizes != sizes or [change[:2] for change in changes] != [(size, size) for size in sizes]:
        return False
    if any(rank_of(ground, change) != change[0] for change in changes):
        return False
    return all(multiplied(ground, before, changes[tail]) == multiplied(ground, changes[head], after)
               for (tail, head), before, after in zip(one.drawing.arrows, one.tables, tables))


def in_corner(ground, tables):
    """Noughts, but the tables each below and behind the one ahead."""
    found = empty(ground, sum(table[0] for table in tables), sum(table[1] for table in tables))
    down = right = 0
    for high, wide, rows in tables:
        for k in range(high):
            found[2][down + k][right:right + wide] = rows[k]
        down += high
        right += wide
    return found


def beside(ground, drawing, standings):
    """The sizes and tables of standings side by side."""
    sizes = [sum(standing.sizes[point] for standing in standings) for point in range(drawing.many)]
    tables = [in_corner(ground, [standing.tables[at] for standing in standings]) for at in range(len(drawing.arrows))]
    return sizes, tables


def spread(ground, tables):
    return [number for table in tables for row in table[2] for number in row]


def maps_counted(one, other):
    """How many maps there are: the choices with a one at one place, less the rank of their differences."""
    ground, lists = one.ground, []
    for point in range(one.drawing.many):
        for i in range(other.sizes[point]):
            for j in range(one.sizes[point]):
                choice = [empty(ground, high, wide) for high, wide in zip(other.sizes, one.sizes)]
                choice[point][2][i][j] = told(ground, 1)
                tables = []
                for at, (tail, head) in enumerate(one.drawing.arrows):
                    there = multiplied(ground, other.tables[at], choice[tail])
                    here = multiplied(ground, choice[head], one.tables[at])
                    tables.append(added(ground, there, here, -1))
                lists.append(spread(ground, tables))
    return len(lists) - rank_of(ground, (len(lists), len(lists[0]) if lists else 0, lists))


def worth_of(drawing, sizes):
    return sum(size * size for size in sizes) - sum(sizes[tail] * sizes[head] for tail, head in drawing.arrows)


def good_drawings(seed, count, most=8):
    """Drawings of each kind in turn, their arrows either way, and some of several pieces."""
    chance = random.Random(seed)
    given = [shape for kind, shape in KINDS if shape[0] <= most]
    for at in range(count):
        many, arrows = given[at % len(given)]
        beside_it = [shape for shape in given if shape[0] + many <= most]
        if beside_it and chance.random() < 0.4:
            many, arrows = several(chance, [(many, arrows), chance.choice(beside_it)])
            yield Drawing(many, arrows)
        else:
            yield Drawing(many, moved(chance, many, arrows))


def fields(standing):
    """All that makes a standing, as one thing that is held against another."""
    return (standing.ground.prime, standing.drawing.many, standing.drawing.arrows, standing.sizes, standing.tables)


def nothing_on(ground, drawing, sizes):
    """The standing of these sizes with noughts on all arrows."""
    return Standing(ground, drawing, sizes, [empty(ground, sizes[head], sizes[tail]) for tail, head in drawing.arrows])
