"""What the tests share of drawings: all the kinds, pieces without one, and drawings of all sorts."""

import random


def star(*lengths):
    """The points and arrows of a fork at 0 with arms of so many points."""
    arrows = []
    many = 1
    for length in lengths:
        ahead = 0
        for _ in range(length):
            arrows.append((ahead, many))
            ahead = many
            many += 1
    return many, arrows


def row(many):
    return many, [(k, k + 1) for k in range(many - 1)]


# All the kinds that a drawing of at most eight points may have.
KINDS = ([(("A", n), row(n)) for n in range(1, 9)] + [(("D", n), star(1, 1, n - 3)) for n in range(4, 9)]
         + [(("E", n), star(1, 2, n - 4)) for n in (6, 7, 8)])

KINDLESS = [
    (1, [(0, 0)]), (1, [(0, 0), (0, 0)]), (2, [(0, 1), (0, 1)]), (2, [(0, 1), (1, 0)]), (2, [(0, 1), (1, 1)]),
    (3, [(0, 1), (1, 2), (2, 0)]), (3, [(0, 1), (0, 1), (1, 2)]), (4, [(0, 1), (1, 2), (2, 3), (3, 0)]),
    (3, [(0, 1), (1, 2), (1, 1)]), (4, [(0, 1), (0, 2), (0, 3), (0, 0)]),
    star(1, 1, 1, 1), star(2, 2, 2), star(1, 3, 3), star(2, 2, 3), star(1, 1, 1, 2), star(1, 1, 1, 1, 1),
    star(1, 1, 1, 1, 1, 1, 1), (6, [(0, 1), (0, 2), (0, 3), (3, 4), (3, 5)]), (7, [(0, 1), (0, 2), (0, 3), (3, 4),
                                                                                  (4, 5), (4, 6)]),
    (8, [(k, (k + 1) % 8) for k in range(8)]), (8, [(k, (k + 1) % 8) for k in range(8)] + [(0, 4)]),
]


def moved(chance, many, arrows):
    """The same drawing with its points and arrows in another order, each arrow either way."""
    places = list(range(many))
    chance.shuffle(places)
    found = [(places[tail], places[head]) for tail, head in arrows]
    found = [arrow if chance.random() < 0.5 else arrow[::-1] for arrow in found]
    chance.shuffle(found)
    return found


def samples(seed, count):
    """Drawings of all sorts, as numbers of points and lists of arrows."""
    chance = random.Random(seed)
    for _ in range(count):
        many = chance.randint(1, 8)
        yield many, [(chance.randrange(many), chance.randrange(many)) for _ in range(chance.randint(0, 9))]


def several(chance, pieces):
    """One drawing of several pieces, each a number of points and a list of arrows, its points in any order."""
    many, arrows = 0, []
    for size, given in pieces:
        arrows += [(tail + many, head + many) for tail, head in given]
        many += size
    return many, moved(chance, many, arrows)


def above_nought(piece, arrows):
    """Whether the form is above nought, by the signs of its leading numbers when it is swept."""
    form = {a: {b: 2 * int(a == b) for b in piece} for a in piece}
    for tail, head in arrows:
        form[tail][head] -= 1
        form[head][tail] -= 1
    left = list(piece)
    before = 1
    while left:
        lead = left.pop(0)
        here = form[lead][lead]
        if here <= 0:
            return False
        for a in left:
            for b in left:
                form[a][b] = (form[a][b] * here - form[a][lead] * form[lead][b]) // before
        before = here
    return True
