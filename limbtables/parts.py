"""Plain parts: for each root of a good drawing a standing that only numbers map to itself."""

from limbtables.errors import NoKind, NoRoot
from limbtables.forms import is_good, raised, worth
from limbtables.mirrors import single, turned_out, wells_in_turn
from limbtables.roots import mirrored
from limbtables.standings import are_sizes


def is_root(drawing, thing):
    """Whether a list of any length of whole numbers and truths is a root of a good drawing."""
    return are_sizes(drawing, thing) and worth(drawing, thing) == 1


def part_of(ground, drawing, root):
    """A standing whose sizes are the root and whose maps to itself are as many as 1."""
    if not is_good(drawing):
        raise NoKind("plain parts are told of a good drawing alone")
    if not is_root(drawing, root):
        raise NoRoot("the sizes of a plain part are a root of the drawing")
    order = wells_in_turn(drawing)
    turned = []
    here, row, point = drawing, root, order[0]
    # Mirrors at wells in turn lead each root below 0 sometime: just then it is a 1 alone at the point to be turned.
    while row != raised([0] * drawing.many, point):
        turned.append(point)
        here, row = here.turned(point), mirrored(drawing, point, row)
        point = order[len(turned) % len(order)]
    part = single(ground, here, point)
    for point in turned[::-1]:
        part = turned_out(part, point)
    return part
