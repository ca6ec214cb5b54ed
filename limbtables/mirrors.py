"""Standings turned at a well or a spring, and turned back."""

from limbtables.errors import NoMirror
from limbtables.forms import raised
from limbtables.standings import Standing
from limbtables.tables import (all_led_to, left_beside, made_by, noughts, one_over_another, plain, side_by_side,
                               to_nought, turned_about)


def tables_at(standing, point):
    """The tables of the arrows with the point as an end, in the arrows' order."""
    return [table for arrow, table in zip(standing.drawing.arrows, standing.tables) if point in arrow]


def tables_in(standing, point):
    """The tables of a well's arrows, side by side."""
    return side_by_side(standing.ground, standing.sizes[point], tables_at(standing, point))


def tables_out(standing, point):
    """The tables of a spring's arrows, one over another."""
    return one_over_another(standing.ground, standing.sizes[point], tables_at(standing, point))


def rows_apart(table, heights):
    """The tables of these heights that, one over another, are the table."""
    high, wide, rows = table
    found = []
    start = 0
    for height in heights:
        found.append((height, wide, rows[start:start + height]))
        start += height
    return found


def columns_apart(table, widths):
    """The tables of these widths that, side by side, are the table."""
    return [turned_about(part) for part in rows_apart(turned_about(table), widths)]


def turned_with(standing, point, size, parts):
    """The standing on the turned drawing, with this size at the point and these tables on its arrows."""
    sizes = list(standing.sizes)
    sizes[point] = size
    left = list(parts)
    tables = []
    for arrow, table in zip(standing.drawing.arrows, standing.tables):
        tables.append(left.pop(0) if point in arrow else table)
    return Standing(standing.ground, standing.drawing.turned(point), sizes, tables)


def turned_in(standing, point):
    """The standing turned at a well."""
    if not standing.drawing.is_well(point):
        raise NoMirror("a standing is turned in at a well alone")
    found = to_nought(standing.ground, tables_in(standing, point))
    parts = rows_apart(found, [table[1] for table in tables_at(standing, point)])
    return turned_with(standing, point, found[1], parts)


def turned_out(standing, point):
    """The standing turned at a spring."""
    if not standing.drawing.is_spring(point):
        raise NoMirror("a standing is turned out at a spring alone")
    found = left_beside(standing.ground, tables_out(standing, point))
    parts = columns_apart(found, [table[0] for table in tables_at(standing, point)])
    return turned_with(standing, point, found[0], parts)


def wells_in_turn(drawing):
    """The points of a good drawing in such an order that each is a well once those ahead were turned."""
    found = []
    while len(found) < drawing.many:
        left = [point for point in range(drawing.many) if point not in found]
        # The arrows to those ahead are turned about by then, so those to others that are left count alone.
        tails = [tail for tail, head in drawing.arrows if head in left]
        found.extend([point for point in left if point not in tails])
    return found


def single(ground, drawing, point):
    """The standing of size 1 at the point, else 0, and noughts."""
    sizes = raised([0] * drawing.many, point)
    tables = [noughts(ground, sizes[head], sizes[tail]) for tail, head in drawing.arrows]
    return Standing(ground, drawing, sizes, tables)


def change_in(ground, found, wanted):
    """A square table with a back that, times the one found with rows of noughts below, is the one wanted.

    The one found has the rank of the one wanted, and just so many rows.
    """
    ahead = turned_about(all_led_to(ground, turned_about(found), turned_about(wanted)))
    return made_by(ground, side_by_side(ground, wanted[0], [ahead, plain(ground, wanted[0])]))


def change_out(ground, found, given):
    """A square table with a back such that the one given, times it, is the one found with noughts behind.

    The one found has the rank of the one given, and just so many columns.
    """
    return side_by_side(ground, given[1], [all_led_to(ground, given, found), to_nought(ground, given)])


def changes_at(standing, point, change):
    """Changes that are plain but at the point."""
    found = [plain(standing.ground, size) for size in standing.sizes]
    found[point] = change
    return found


def forth_and_back(standing, point):
    """A tuple (turned, home, many, changes): at a well, the changes lead to home with many single ones behind it."""
    turned = turned_in(standing, point)
    home = turned_out(turned, point)
    change = change_in(standing.ground, tables_in(home, point), tables_in(standing, point))
    many = standing.sizes[point] - home.sizes[point]
    return (turned, home, many, changes_at(standing, point, change))


def back_and_forth(standing, point):
    """A tuple (turned, home, many, changes): likewise at a spring."""
    turned = turned_out(standing, point)
    home = turned_in(turned, point)
    change = change_out(standing.ground, tables_out(home, point), tables_out(standing, point))
    many = standing.sizes[point] - home.sizes[point]
    return (turned, home, many, changes_at(standing, point, change))
