"""Standings: a size at each point of a drawing, and a table on each arrow."""

from limbtables.errors import NoChange, NoStanding
from limbtables.forms import two_sided
from limbtables.tables import along_corner, back_of, is_table, product, rank, to_nought, turned_about
from limbtables.wholes import is_whole


def are_sizes(drawing, thing):
    """Whether a thing of whatever kind is a list of a size for each point."""
    if not isinstance(thing, list) or len(thing) != drawing.many:
        return False
    return all([is_whole(size) and size >= 0 for size in thing])


def is_table_of(ground, high, wide, thing):
    """Whether a thing of whatever kind is a table of this size."""
    return is_table(ground, thing) and thing[0] == high and thing[1] == wide


def are_tables(ground, drawing, sizes, thing):
    """Whether a thing of whatever kind is a list of a table for each arrow, as the sizes ask."""
    if not isinstance(thing, list) or len(thing) != len(drawing.arrows):
        return False
    return all([is_table_of(ground, sizes[head], sizes[tail], table)
                for (tail, head), table in zip(drawing.arrows, thing)])


class Standing:
    """A size at each point of a drawing, and on each arrow a table of the ground's numbers."""

    def __init__(self, ground, drawing, sizes, tables):
        if not are_sizes(drawing, sizes) or not are_tables(ground, drawing, sizes, tables):
            raise NoStanding("a standing has a size for each point and a table of their sizes for each arrow")
        self.ground = ground
        self.drawing = drawing
        self.sizes = list(sizes)
        self.tables = [(high, wide, [list(row) for row in rows]) for high, wide, rows in tables]


def stands_on(standing, ground, drawing):
    """Whether a standing is of this ground and this drawing."""
    if standing.ground.prime != ground.prime or standing.drawing.many != drawing.many:
        return False
    return standing.drawing.arrows == drawing.arrows


def same(one, other):
    """Whether two standings have the same ground, drawing, sizes and tables."""
    return stands_on(one, other.ground, other.drawing) and one.sizes == other.sizes and one.tables == other.tables


def are_changes(standing, thing):
    """Whether a thing of whatever kind is a list of a square table of the size for each point."""
    if not isinstance(thing, list) or len(thing) != standing.drawing.many:
        return False
    return all([is_table_of(standing.ground, size, size, table) for size, table in zip(standing.sizes, thing)])


def backs_of(standing, changes):
    """The backs of the changes of a standing."""
    if not are_changes(standing, changes):
        raise NoChange("changes are a list of a square table of the size for each point")
    backs = [back_of(standing.ground, change) for change in changes]
    if any([back is None for back in backs]):
        raise NoChange("each of the changes has a back")
    return backs


def changed(standing, changes):
    """The standing led by changes: the back of the head's, times the table, times the tail's."""
    ground = standing.ground
    backs = backs_of(standing, changes)
    tables = []
    for (tail, head), table in zip(standing.drawing.arrows, standing.tables):
        tables.append(product(ground, backs[head], product(ground, table, changes[tail])))
    return Standing(ground, standing.drawing, standing.sizes, tables)


def side_of(ground, drawing, standings):
    """The standings side by side, in their order."""
    if not all([stands_on(standing, ground, drawing) for standing in standings]):
        raise NoStanding("standings side by side are of the ground and the drawing handed in")
    sizes = [sum([standing.sizes[point] for standing in standings]) for point in range(drawing.many)]
    tables = [along_corner(ground, [standing.tables[at] for standing in standings])
              for at in range(len(drawing.arrows))]
    return Standing(ground, drawing, sizes, tables)


def place_starts(one, other):
    """Where each point's table begins where the tables of a map are written as one row; behind them, its length."""
    starts = [0]
    for wide, high in zip(one.sizes, other.sizes):
        starts.append(starts[-1] + high * wide)
    return starts


def difference_row(one, other, at, row_place, column_place):
    """What the numbers of a map's tables, as one row, are taken times for one number of the difference on an arrow."""
    ground = one.ground
    starts = place_starts(one, other)
    tail, head = one.drawing.arrows[at]
    found = [ground.number(0)] * starts[-1]
    for k, number in enumerate(other.tables[at][2][row_place]):
        found[starts[tail] + k * one.sizes[tail] + column_place] = number
    for k, row in enumerate(one.tables[at][2]):
        place = starts[head] + row_place * one.sizes[head] + k
        # An arrow from a point to itself has the same table of the map on both sides.
        found[place] = ground.minus(found[place], row[column_place])
    return found


def differences(one, other):
    """The table that leads the numbers of tables at the points to those of the differences on all arrows."""
    if not stands_on(one, other.ground, other.drawing):
        raise NoStanding("maps are between standings of one ground and one drawing")
    rows = []
    for at, (tail, head) in enumerate(one.drawing.arrows):
        for row_place in range(other.sizes[head]):
            for column_place in range(one.sizes[tail]):
                rows.append(difference_row(one, other, at, row_place, column_place))
    return (len(rows), place_starts(one, other)[-1], rows)


def tables_of(one, other, numbers):
    """The tables of a map whose numbers are written as one row."""
    found = []
    for wide, high, start in zip(one.sizes, other.sizes, place_starts(one, other)):
        rows = [numbers[start + k * wide:start + (k + 1) * wide] for k in range(high)]
        found.append((high, wide, rows))
    return found


def maps(one, other):
    """Maps from the one to the other, of which each map is a sum, each times a number, in just one way."""
    columns = turned_about(to_nought(one.ground, differences(one, other)))[2]
    return [tables_of(one, other, column) for column in columns]


def count_maps(one, other):
    """How many maps are told."""
    table = differences(one, other)
    return table[1] - rank(one.ground, table)


def count_ties(one, other):
    """How many more maps are told than the two-sided form of the sizes says."""
    return count_maps(one, other) - two_sided(one.drawing, one.sizes, other.sizes)
