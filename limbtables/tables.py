"""Tables (high, wide, rows) of numbers of a ground."""

from limbtables.errors import NoTable
from limbtables.wholes import common_divisor, common_multiple, is_whole


def is_table(ground, thing):
    """Whether a thing of whatever kind is a table of numbers of the ground."""
    if not isinstance(thing, tuple) or len(thing) != 3:
        return False
    high, wide, rows = thing
    if not is_whole(high) or not is_whole(wide) or high < 0 or wide < 0:
        return False
    if not isinstance(rows, list) or len(rows) != high:
        return False
    return all([is_row(ground, wide, row) for row in rows])


def is_row(ground, wide, thing):
    """Whether a thing of whatever kind is a list of so many numbers of the ground."""
    if not isinstance(thing, list) or len(thing) != wide:
        return False
    return all([ground.is_number(number) for number in thing])


def plain(ground, many):
    """The table with a one where row and column are the same, else noughts."""
    high, wide, rows = noughts(ground, many, many)
    for place in range(many):
        rows[place][place] = ground.number(1)
    return (high, wide, rows)


def noughts(ground, high, wide):
    """The table of noughts of this size."""
    return (high, wide, [[ground.number(0)] * wide for row in range(high)])


def product(ground, one, other):
    """The first table times the second."""
    if one[1] != other[0]:
        raise NoTable("the first table is as wide as the other one is high")
    rows = [whole_row(ground, row) for row in one[2]]
    columns = [whole_row(ground, column) for column in turned_about(other)[2]]
    return (one[0], other[1], [[row_times(ground, row, column) for column in columns] for row in rows])


def whole_row(ground, row):
    """A tuple of whole numbers and a bottom: the row is these numbers over that bottom."""
    if ground.prime != 0:
        return (list(row), 1)
    bottom = 1
    for number in row:
        bottom = common_multiple(bottom, number[1])
    return ([number[0] * (bottom // number[1]) for number in row], bottom)


def row_times(ground, row, column):
    """A row times a column, each told as whole_row tells it."""
    tops, bottom = row
    other_tops, other_bottom = column
    # One common bottom for all the summands: lowest terms are sought just once.
    return ground.number(sum([a * b for a, b in zip(tops, other_tops)]), bottom * other_bottom)


def turned_about(table):
    """The table whose rows are the columns of this one."""
    high, wide, rows = table
    return (wide, high, [[row[place] for row in rows] for place in range(wide)])


def sum_of(ground, one, other):
    """The sum of two tables."""
    if one[0] != other[0] or one[1] != other[1]:
        raise NoTable("two tables that are added have the same size")
    rows = [[ground.plus(a, b) for a, b in zip(row, other_row)] for row, other_row in zip(one[2], other[2])]
    return (one[0], one[1], rows)


def side_by_side(ground, high, tables):
    """The columns of the first table, then those of the second, and so on."""
    rows = [[] for place in range(high)]
    for table in tables:
        if table[0] != high:
            raise NoTable("tables side by side are as high as told")
        for place in range(high):
            rows[place].extend(table[2][place])
    return (high, sum([table[1] for table in tables]), rows)


def one_over_another(ground, wide, tables):
    """The rows of the first table, then those of the second, and so on."""
    rows = []
    for table in tables:
        if table[1] != wide:
            raise NoTable("tables one over another are as wide as told")
        rows.extend([list(row) for row in table[2]])
    return (len(rows), wide, rows)


def along_corner(ground, tables):
    """Noughts, but the tables each right below and behind the one ahead."""
    wide = sum([table[1] for table in tables])
    nought = ground.number(0)
    rows = []
    ahead = 0
    for table in tables:
        behind = wide - ahead - table[1]
        rows.extend([[nought] * ahead + row + [nought] * behind for row in table[2]])
        ahead += table[1]
    return (len(rows), wide, rows)


def tidied(ground, row):
    """A row of whole numbers times a number that isn't nought, its numbers being small."""
    if ground.prime != 0:
        return [number % ground.prime for number in row]
    divisor = 0
    for number in row:
        divisor = common_divisor(number, divisor)
        if divisor == 1:
            return row
    if divisor == 0:
        return row
    return [number // divisor for number in row]


def cleared(ground, row, lead, place):
    """The row, times a number that isn't nought, less a row that leads there: nought at the place."""
    if row[place] == 0:
        return row
    divisor = common_divisor(row[place], lead[place])
    keep = lead[place] // divisor
    take = row[place] // divisor
    return tidied(ground, [keep * number - take * other for number, other in zip(row, lead)])


def leading_row(rows, place):
    """Which of the rows has the least number, but nought, at the place; None where all have nought."""
    found = [at for at, row in enumerate(rows) if row[place] != 0]
    return min(found, key=lambda at: abs(rows[at][place]), default=None)


def swept(ground, rows, wide):
    """Rows of whole numbers, each beginning further right than the row ahead, in their first columns.

    Told is a tuple (rows, places): the row at k begins at places[k]; those behind are noughts
    in these columns. Fractions are kept as whole numbers, each row times its own number, since
    lowest terms of each number at each step take far longer.
    """
    done = []
    left = [tidied(ground, whole_row(ground, row)[0]) for row in rows]
    places = []
    for place in range(wide):
        at = leading_row(left, place)
        if at is not None:
            lead = left.pop(at)
            left = [cleared(ground, row, lead, place) for row in left]
            done.append(lead)
            places.append(place)
    return (done + left, places)


def reduced_rows(ground, rows, wide):
    """Rows of numbers, reduced in their first columns, and the places where they begin."""
    found, places = swept(ground, rows, wide)
    # From the last one on, since a row that is reduced itself brings no further numbers into those columns.
    for at, place in reversed(list(enumerate(places))):
        found[:at] = [cleared(ground, row, found[at], place) for row in found[:at]]
    leads = [row[place] for row, place in zip(found, places)]
    leads.extend([1] * (len(found) - len(places)))
    return ([[ground.number(number, lead) for number in row] for row, lead in zip(found, leads)], places)


def reduced(ground, table):
    """A tuple (steps, reduced table): the steps times the table are the reduced one."""
    high, wide, given = table
    joined = side_by_side(ground, high, [table, plain(ground, high)])
    rows = reduced_rows(ground, joined[2], wide)[0]
    return ((high, high, [row[wide:] for row in rows]), (high, wide, [row[:wide] for row in rows]))


def rank(ground, table):
    """How many rows of the reduced table aren't all noughts."""
    return len(swept(ground, table[2], table[1])[1])


def less_than_nought(ground, number):
    """Nought less the number."""
    # No difference is asked of the ground: the number is in lowest terms already.
    return (-number[0], number[1]) if ground.prime == 0 else -number % ground.prime


def to_nought(ground, table):
    """A table of the columns that the table takes to nought."""
    high, wide, given = table
    rows, places = reduced_rows(ground, given, wide)
    free = [place for place in range(wide) if place not in places]
    found = noughts(ground, wide, len(free))[2]
    for row, place in zip(rows, places):
        found[place] = [less_than_nought(ground, row[at]) for at in free]
    for at, place in enumerate(free):
        found[place][at] = ground.number(1)
    return (wide, len(free), found)


def made_by(ground, table):
    """A table of columns of the table, as many as its rank."""
    high, wide, rows = table
    places = swept(ground, rows, wide)[1]
    return (high, len(places), [[row[place] for place in places] for row in rows])


def left_beside(ground, table):
    """A table of rows that, times the table, are noughts."""
    return turned_about(to_nought(ground, turned_about(table)))


def back_of(ground, table):
    """The table that times this one, in either order, is the plain one; or None."""
    high, wide, given = table
    if high != wide:
        return None
    steps, found = reduced(ground, table)
    return steps if found == plain(ground, high) else None


def led_to(ground, table, column):
    """A column that the table leads to the one handed in; or None."""
    return all_led_to(ground, table, column)


def all_led_to(ground, table, columns):
    """Columns that the table leads, one by one, to those handed in; or None."""
    high, wide, given = table
    joined = side_by_side(ground, high, [table, columns])
    rows, places = reduced_rows(ground, joined[2], wide)
    nought = ground.number(0)
    if any([number != nought for row in rows[len(places):] for number in row[wide:]]):
        return None
    found = noughts(ground, wide, columns[1])
    for row, place in zip(rows, places):
        found[2][place] = row[wide:]
    return found
