"""Drawings that are not good, with a standing for each number; and rows of arrows, with their bars."""

from limbtables.apart import counts
from limbtables.drawings import Drawing
from limbtables.errors import NoKind
from limbtables.forms import barely_not_good, is_good, low_row
from limbtables.parts import part_of
from limbtables.standings import Standing
from limbtables.tables import noughts


def table_of_number(ground, high, wide, number):
    """A table of one or two numbers: the number handed in, a 1 ahead of it where there are two."""
    numbers = [number] if high * wide == 1 else [ground.number(1), number]
    return (high, wide, [numbers[k * wide:(k + 1) * wide] for k in range(high)])


def member_tables(ground, bare, sizes, number):
    """Tuples of an arrow and the table there of the number's member, of a drawing that is barely not good."""
    # Such a drawing is a ring, of sizes 1, or a tree that has size 1 at ends alone, and size 2 beside such an end.
    end = sizes.index(1)
    free = [arrow for arrow in bare.arrows if end in arrow][0]
    rest = list(bare.arrows)
    rest.remove(free)
    root = list(sizes)
    if max(sizes) > 1:
        root[end] = 0
    # Without the free arrow the drawing is good, and the sizes, in a tree without that end's, are a root. Only numbers
    # map its plain part to itself, so maps can't lead one number on the free arrow to another one.
    part = part_of(ground, Drawing(bare.many, rest), root)
    tail, head = free
    return list(zip(rest, part.tables)) + [(free, table_of_number(ground, sizes[head], sizes[tail], number))]


def member(ground, drawing, number):
    """The standing of a number: no two of them are alike, and only numbers map one to itself."""
    if is_good(drawing):
        raise NoKind("members are told of a drawing that is not good")
    sizes = low_row(drawing)
    left = member_tables(ground, barely_not_good(drawing), sizes, number)
    tables = []
    for tail, head in drawing.arrows:
        fitting = [at for at, (arrow, table) in enumerate(left) if arrow == (tail, head)]
        tables.append(left.pop(fitting[0])[1] if fitting else noughts(ground, sizes[head], sizes[tail]))
    return Standing(ground, drawing, sizes, tables)


def is_row_of_arrows(drawing):
    """Whether there is one arrow between each two points that follow on one another, and no other one."""
    return sorted([sorted(arrow) for arrow in drawing.arrows]) == [[k, k + 1] for k in range(drawing.many - 1)]


def bars(standing):
    """Tuples (first, last, how many) of the parts of a standing of a row of arrows, sorted."""
    if not is_row_of_arrows(standing.drawing):
        raise NoKind("bars are told of a row of arrows")
    found = []
    for root, many in counts(standing):
        first = root.index(1)
        found.append((first, first + sum(root) - 1, many))
    return sorted(found)
