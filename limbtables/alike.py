"""Whether two standings of a good drawing are alike: changes, or what parts them."""

from limbtables.apart import split_off, taken_apart
from limbtables.errors import NoKind, NoStanding
from limbtables.forms import is_good
from limbtables.parts import part_of
from limbtables.standings import count_maps, stands_on
from limbtables.tables import back_of, product


def check_pair(one, other):
    """Refuses two standings that are not of one ground and one good drawing."""
    if not stands_on(one, other.ground, other.drawing):
        raise NoStanding("standings that are held against one another are of one ground and one drawing")
    if not is_good(one.drawing):
        raise NoKind("standings of a good drawing alone are held against one another")


def leading(one, other):
    """Changes that lead the one to the other; None where they are not alike."""
    check_pair(one, other)
    parts, changes = taken_apart(one)
    other_parts, other_changes = taken_apart(other)
    if [part.sizes for part in parts] != [part.sizes for part in other_parts]:
        return None
    # Parts with the same sizes are the same, so both are led to one and the same standing.
    return [product(one.ground, change, back_of(one.ground, other_change))
            for change, other_change in zip(changes, other_changes)]


def last_unlike(one, other):
    """Of two lists of tuples (root, many), the last root that is there not as often in the one as in the other."""
    shared = min(len(one), len(other))
    roots = [root for (root, many), (also, often) in zip(one, other) if many != often]
    roots.extend([root for root, many in one[shared:] + other[shared:] if many > 0])
    return roots[-1] if roots else None


def parting(one, other):
    """A tuple (root, one's, other's): how many maps lead from its plain part; None where they are alike."""
    check_pair(one, other)
    # No map leads from a part to one that is split off ahead of it: so what else is unlike doesn't count.
    root = last_unlike(split_off(one), split_off(other))
    if root is None:
        return None
    part = part_of(one.ground, one.drawing, root)
    return (root, count_maps(part, one), count_maps(part, other))
