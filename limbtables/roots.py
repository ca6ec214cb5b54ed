"""Mirrors of rows, and the roots of a good drawing."""

from limbtables.errors import NoKind
from limbtables.forms import is_good, raised


def mirrored(drawing, point, row):
    """The row with, at the point, the sum of the numbers at the arrows' other ends less the number there."""
    found = list(row)
    found[point] = -row[point]
    for tail, head in drawing.arrows:
        if tail == point:
            found[point] += row[head]
        elif head == point:
            found[point] += row[tail]
    return found


def roots(drawing):
    """The rows of numbers from 0 on that are worth 1, sorted."""
    if not is_good(drawing):
        raise NoKind("roots are told of a good drawing alone")
    points = list(range(drawing.many))
    waiting = [raised([0] * drawing.many, point) for point in points]
    seen = set()
    while waiting:
        row = waiting.pop()
        if tuple(row) not in seen:
            seen.add(tuple(row))
            # Each root comes of a row with one 1 alone by mirrors that make it larger.
            mirrors = [mirrored(drawing, point, row) for point in points]
            waiting.extend([mirror for mirror in mirrors if sum(mirror) > sum(row)])
    return [list(row) for row in sorted(seen)]
