"""A desk: standings of one drawing, kept by names, and rows of text that ask for them."""

from limbtables.alike import parting
from limbtables.apart import counts
from limbtables.errors import NoDrawing, NoName, NoRow
from limbtables.forms import low_row
from limbtables.grounds import Ground
from limbtables.mirrors import turned_in, turned_out
from limbtables.roots import roots
from limbtables.standings import count_maps, count_ties, side_of
from limbtables.tables import rank
from limbtables.texts import is_written, read_drawing, read_standing, show_standing

SMALL_LETTERS = "abcdefghijklmnopqrstuvwxyz"
MOST_LETTERS = 8
# What stands behind the first word of a row: names, numbers of points or arrows, and the text of a standing.
FORMS = {
    "keep": ("name", "text"),
    "told": ("name",),
    "good": (),
    "kinds": (),
    "roots": (),
    "counts": ("name",),
    "alike": ("name", "name"),
    "maps": ("name", "name"),
    "turn": ("name", "number", "name"),
    "home": ("name", "name"),
    "sum": ("name", "name", "name"),
    "rank": ("name", "number"),
}


def is_name(word):
    """Whether a word is a name: one to eight small letters."""
    return 1 <= len(word) <= MOST_LETTERS and all([letter in SMALL_LETTERS for letter in word])


def fits(form, word):
    """Whether a word is of such a form."""
    if form == "name":
        return is_name(word)
    if form == "number":
        return is_written(2, word)
    return word != ""


def words_of(row):
    """The words of a row, all that is written of a standing being one of them."""
    words = row.split(" ", 2) if row.startswith("keep ") else row.split(" ")
    forms = FORMS.get(words[0])
    if forms is None or len(forms) != len(words) - 1:
        raise NoRow("a row has one of the first words, and just so many words behind it")
    if not all([fits(form, word) for form, word in zip(forms, words[1:])]):
        raise NoRow("a name is one to eight small letters, a number one or two figures")
    return words


def kept_by(book, name):
    """What is kept by a name in a book."""
    if name not in book:
        raise NoName("nothing is kept by this name")
    return book[name]


def place_of(many, word):
    """The place that is written by a word, one of so many."""
    place = int(word)
    if place >= many:
        raise NoDrawing("the drawing has no such point or arrow")
    return place


def with_commas(row):
    """The numbers of a row with a comma between."""
    return ",".join([str(number) for number in row])


def answer_keep(desk, words):
    """Keeps a standing."""
    name, text = words
    desk.kept[name] = read_standing(desk.ground, desk.drawing, text)
    return "ok"


def answer_told(desk, words):
    """A standing, written."""
    return show_standing(kept_by(desk.kept, words[0]))


def answer_good(desk, words):
    """Whether the drawing is good, else a row that shows that it isn't."""
    row = low_row(desk.drawing)
    return "yes" if row is None else f"no {with_commas(row)}"


def answer_kinds(desk, words):
    """The kinds of the pieces."""
    found = []
    for kind in desk.drawing.kinds():
        found.append("none" if kind is None else f"{kind[0]}{kind[1]}")
    return " ".join(found)


def answer_roots(desk, words):
    """How many roots there are."""
    return str(len(roots(desk.drawing)))


def answer_counts(desk, words):
    """How often each plain part is there."""
    found = counts(kept_by(desk.kept, words[0]))
    return " ".join([f"{with_commas(root)}:{many}" for root, many in found]) if found else "nothing"


def answer_alike(desk, words):
    """Whether two standings are alike, else what parts them."""
    one, other = [kept_by(desk.kept, name) for name in words]
    found = parting(one, other)
    if found is None:
        return "yes"
    root, ones, others = found
    return f"no {with_commas(root)} {ones} {others}"


def answer_maps(desk, words):
    """How many maps there are, and ties beyond."""
    one, other = [kept_by(desk.kept, name) for name in words]
    return f"{count_maps(one, other)} {count_ties(one, other)}"


def answer_turn(desk, words):
    """Keeps a standing turned at a point, with what its way home needs."""
    name, word, new = words
    standing = kept_by(desk.kept, name)
    point = place_of(desk.drawing.many, word)
    well = desk.drawing.is_well(point)
    turned = turned_in(standing, point) if well else turned_out(standing, point)
    desk.kept_turned[new] = (turned, point, well)
    return "ok"


def answer_home(desk, words):
    """Keeps a standing turned back."""
    name, new = words
    turned, point, well = kept_by(desk.kept_turned, name)
    desk.kept[new] = turned_out(turned, point) if well else turned_in(turned, point)
    return "ok"


def answer_sum(desk, words):
    """Keeps two standings side by side."""
    both = [kept_by(desk.kept, name) for name in words[:2]]
    desk.kept[words[2]] = side_of(desk.ground, desk.drawing, both)
    return "ok"


def answer_rank(desk, words):
    """The rank of the table on an arrow."""
    standing = kept_by(desk.kept, words[0])
    place = place_of(len(desk.drawing.arrows), words[1])
    return str(rank(desk.ground, standing.tables[place]))


ANSWERS = {
    "keep": answer_keep,
    "told": answer_told,
    "good": answer_good,
    "kinds": answer_kinds,
    "roots": answer_roots,
    "counts": answer_counts,
    "alike": answer_alike,
    "maps": answer_maps,
    "turn": answer_turn,
    "home": answer_home,
    "sum": answer_sum,
    "rank": answer_rank,
}


class Desk:
    """A ground and a drawing, and standings of it kept by names."""

    def __init__(self, prime, text):
        self.ground = Ground(prime)
        self.drawing = read_drawing(text)
        self.kept = {}
        # Standings turned at a point, each with the point and whether it was a well.
        self.kept_turned = {}

    def say(self, row):
        """The answer to a row."""
        words = words_of(row)
        answer = ANSWERS[words[0]]
        return answer(self, words[1:])
