"""Numbers, tables, drawings and standings written as texts, and read."""

from limbtables.drawings import Drawing
from limbtables.errors import NoNumber, NoText
from limbtables.standings import Standing
from limbtables.tables import noughts

FIGURES = "0123456789"
MOST_FIGURES = 30
LARGEST_SUM = 40


def show_whole(number):
    """A whole number, written."""
    if number < 0:
        return "-" + show_whole(-number)
    # Python writes no number of some thousand figures at once.
    ends = []
    while number >= 10 ** 64:
        number, end = divmod(number, 10 ** 64)
        ends.append(str(end).zfill(64))
    return str(number) + "".join(ends[::-1])


def show_number(ground, number):
    """A number of the ground, written."""
    if ground.prime != 0:
        return show_whole(number)
    top, bottom = number
    return show_whole(top) if bottom == 1 else show_whole(top) + "/" + show_whole(bottom)


def show_table(ground, table):
    """A table, written by its rows."""
    high, wide, rows = table
    if high == 0 or wide == 0:
        return "-"
    return " / ".join([" ".join([show_number(ground, number) for number in row]) for row in rows])


def show_drawing(drawing):
    """A drawing, written as its number of points and its arrows."""
    return " ".join([f"{drawing.many}:"] + [f"{tail}>{head}" for tail, head in drawing.arrows])


def show_standing(standing):
    """A standing, written as its sizes and, for each arrow, its table."""
    sizes = " ".join([show_whole(size) for size in standing.sizes])
    return "; ".join([sizes] + [show_table(standing.ground, table) for table in standing.tables])


def is_written(most, text):
    """Whether a text is one to so many figures, no nought ahead but in 0 itself."""
    if not 1 <= len(text) <= most or any([sign not in FIGURES for sign in text]):
        return False
    return text == "0" or text[0] != "0"


def read_whole(text):
    """The whole number from 0 on that is written by figures alone."""
    if not is_written(MOST_FIGURES, text):
        raise NoText("a whole number is written by one to thirty figures, no nought ahead but in 0 itself")
    return int(text)


def read_top(text):
    """The whole number that is written by figures, with a minus ahead where it is below 0."""
    if not text.startswith("-"):
        return read_whole(text)
    number = read_whole(text[1:])
    if number == 0:
        raise NoText("no minus stands ahead of 0")
    return -number


def read_number(ground, text):
    """The number of the ground that is written as a top, or a top and a bottom."""
    top, slash, bottom = text.partition("/")
    above = read_top(top)
    below = read_whole(bottom) if slash else 1
    try:
        return ground.number(above, below)
    except NoNumber:
        raise NoText("a bottom is nothing that gives no number") from None


def read_table(ground, high, wide, text):
    """The table of this size that is written by its rows."""
    if high == 0 or wide == 0:
        if text != "-":
            raise NoText("a table without rows or columns is written as a minus")
        return noughts(ground, high, wide)
    rows = [[read_number(ground, word) for word in row.split(" ")] for row in text.split(" / ")]
    if len(rows) != high or any([len(row) != wide for row in rows]):
        raise NoText("a table has the sizes of its arrow's ends")
    return (high, wide, rows)


def read_arrow(text):
    """The arrow that is written as its tail and its head."""
    tail, sign, head = text.partition(">")
    return (read_whole(tail), read_whole(head))


def read_drawing(text):
    """The drawing that is written as its number of points and its arrows."""
    words = text.split(" ")
    if not words[0].endswith(":"):
        raise NoText("a drawing begins with its number of points and a colon")
    many = read_whole(words[0][:-1])
    return Drawing(many, [read_arrow(word) for word in words[1:]])


def read_standing(ground, drawing, text):
    """The standing that is written as its sizes and, for each arrow, its table."""
    pieces = text.split("; ")
    sizes = [read_whole(word) for word in pieces[0].split(" ")]
    if len(sizes) != drawing.many or sum(sizes) > LARGEST_SUM:
        raise NoText("a standing begins with a size for each point, which come to at most 40")
    if len(pieces) != len(drawing.arrows) + 1:
        raise NoText("a standing has a table for each arrow")
    tables = [read_table(ground, sizes[head], sizes[tail], piece)
              for (tail, head), piece in zip(drawing.arrows, pieces[1:])]
    return Standing(ground, drawing, sizes, tables)
