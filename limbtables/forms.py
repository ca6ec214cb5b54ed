"""The form of a drawing: what rows of numbers at its points are worth."""

from limbtables.drawings import Drawing


def two_sided(drawing, one, other):
    """The products at the points, less those along the arrows."""
    at_points = sum([a * b for a, b in zip(one, other)])
    return at_points - sum([one[tail] * other[head] for tail, head in drawing.arrows])


def worth(drawing, row):
    """The two-sided form of a row and itself."""
    return two_sided(drawing, row, row)


def is_good(drawing):
    """Whether each row but noughts is worth more than 0: just where each piece has a kind."""
    return all([kind is not None for kind in drawing.kinds()])


def barely_not_good(drawing):
    """Of a drawing that is not good, one of some of its arrows: without any one of them it would be good."""
    kept = list(drawing.arrows)
    for arrow in drawing.arrows:
        fewer = list(kept)
        fewer.remove(arrow)
        if not is_good(Drawing(drawing.many, fewer)):
            kept = fewer
    return Drawing(drawing.many, kept)


def raised(row, point):
    """The row with one more at the point."""
    return row[:point] + [row[point] + 1] + row[point + 1:]


def low_row(drawing):
    """A row of numbers from 0 on, not all 0, that is worth 0 or below; None of a good drawing."""
    if is_good(drawing):
        return None
    # Further arrows make no row of numbers from 0 on worth more.
    bare = barely_not_good(drawing)
    row = raised([0] * bare.many, bare.arrows[0][0])
    # Of the bare drawing there is a least row, but noughts, that is worth 0. A row worth 1 that is nowhere above it
    # can be raised at a point without being worth more, and so is still nowhere above it, until it is that row.
    while worth(bare, row) > 0:
        row = min([raised(row, point) for point in range(bare.many)], key=lambda higher: worth(bare, higher))
    return row
