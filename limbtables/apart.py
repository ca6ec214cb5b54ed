"""Standings of a good drawing taken apart into plain parts."""

from limbtables.errors import NoKind
from limbtables.forms import is_good, raised
from limbtables.mirrors import change_in, columns_apart, single, tables_in, turned_in, turned_out, wells_in_turn
from limbtables.roots import mirrored
from limbtables.standings import Standing, side_of
from limbtables.tables import noughts, product, side_by_side


def turnings(standing):
    """Tuples (standing, point, many): each one turned at its point, a well, is the next one, the last one nothing.

    Many is how many single standings of the point are split off there.
    """
    if not is_good(standing.drawing):
        raise NoKind("standings of a good drawing alone are taken apart")
    order = wells_in_turn(standing.drawing)
    found = []
    here = standing
    # The roots of all that is left come nearer to those below 0, turn by turn, and are split off then.
    while any([size > 0 for size in here.sizes]):
        point = order[len(found) % len(order)]
        turned = turned_in(here, point)
        many = turned.sizes[point] - mirrored(here.drawing, point, here.sizes)[point]
        found.append((here, point, many))
        here = turned
    return found


def split_off(standing):
    """Tuples (root, many) in the order in which so many parts of the root are split off, many being 0 too."""
    found = []
    ahead = []
    for here, point, many in turnings(standing):
        root = raised([0] * standing.drawing.many, point)
        for earlier in ahead[::-1]:
            root = mirrored(standing.drawing, earlier, root)
        found.append((root, many))
        ahead.append(point)
    return found


def counts(standing):
    """Tuples (root, how many) of all plain parts that are there, sorted."""
    return sorted([(root, many) for root, many in split_off(standing) if many > 0])


def each_one(parts):
    """The standings of a list of tuples (standing, how many), each so often."""
    return [part for part, many in parts for turn in range(many)]


def change_back(here, point, home, changes):
    """The change at a well of a standing that leads it to home with single ones behind it, by the others' changes."""
    ground = here.ground
    tables = [product(ground, table, changes[tail])
              for (tail, head), table in zip(here.drawing.arrows, here.tables) if head == point]
    return change_in(ground, tables_in(home, point), side_by_side(ground, here.sizes[point], tables))


def put_together(standing):
    """A tuple (parts, changes): tuples (part, how many), and changes that lead the standing to these side by side."""
    ground = standing.ground
    parts = []
    changes = [noughts(ground, 0, 0) for point in range(standing.drawing.many)]
    for here, point, many in turnings(standing)[::-1]:
        parts = [(turned_out(part, point), often) for part, often in parts]
        home = side_of(ground, here.drawing, each_one(parts))
        # The sizes elsewhere are those of the standing turned, and so its changes there fit.
        changes[point] = change_back(here, point, home, changes)
        if many > 0:
            parts.append((single(ground, here.drawing, point), many))
    return (parts, changes)


def taken_apart(standing):
    """A tuple (parts, changes): plain parts, sorted by their sizes, and changes that lead to these side by side."""
    parts, changes = put_together(standing)
    found = each_one(parts)
    order = sorted(range(len(found)), key=lambda at: found[at].sizes)
    sorted_changes = []
    for point, change in enumerate(changes):
        columns = columns_apart(change, [part.sizes[point] for part in found])
        sorted_changes.append(side_by_side(standing.ground, change[0], [columns[at] for at in order]))
    # Each part is an object of its own, those that are the same too.
    sorted_parts = [Standing(standing.ground, standing.drawing, found[at].sizes, found[at].tables) for at in order]
    return (sorted_parts, sorted_changes)
