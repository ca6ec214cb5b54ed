"""Drawings: a few points and arrows between them."""

from limbtables.errors import NoDrawing
from limbtables.wholes import is_whole

MOST_POINTS = 8
MOST_ARROWS = 9


def makes_drawing(many, arrows):
    """Whether things of whatever kind are a number of points and a list of arrows."""
    if not is_whole(many) or not 1 <= many <= MOST_POINTS:
        return False
    if not isinstance(arrows, list) or len(arrows) > MOST_ARROWS:
        return False
    return all([is_arrow(many, arrow) for arrow in arrows])


def is_arrow(many, thing):
    """Whether a thing of whatever kind is a tuple of two of so many points."""
    if not isinstance(thing, tuple) or len(thing) != 2:
        return False
    return all([is_whole(end) and 0 <= end < many for end in thing])


def hanging(points, arrows):
    """The points, rising, as lists of those that hang together along the arrows."""
    least = {point: point for point in points}
    for tail, head in arrows:
        low, high = sorted([least[tail], least[head]])
        for point in points:
            if least[point] == high:
                least[point] = low
    return [[point for point in points if least[point] == first] for first in points if least[first] == first]


def kind_of(points, arrows):
    """The kind of a piece, told by its points and its arrows; None where it has none."""
    many = len(points)
    # Points that hang together by so few arrows have no way round, no arrow twice and none to itself.
    if len(arrows) != many - 1:
        return None
    ends = [end for arrow in arrows for end in arrow]
    forks = [point for point in points if ends.count(point) > 2]
    if not forks:
        return ("A", many)
    if len(forks) > 1 or ends.count(forks[0]) > 3:
        return None
    return forked_kind(many, arms(points, arrows, forks[0]))


def arms(points, arrows, fork):
    """How many points the arms from a fork have, rising."""
    others = [point for point in points if point != fork]
    return sorted([len(arm) for arm in hanging(others, [arrow for arrow in arrows if fork not in arrow])])


def forked_kind(many, lengths):
    """The kind of a piece of so many points with three arms of these lengths; or None."""
    if lengths[:2] == [1, 1]:
        return ("D", many)
    if lengths[:2] == [1, 2] and many in (6, 7, 8):
        return ("E", many)
    return None


class Drawing:
    """Points, told by the numbers from 0 on, and arrows (tail, head) between them."""

    def __init__(self, many, arrows):
        if not makes_drawing(many, arrows):
            raise NoDrawing("a drawing has 1 to 8 points and a list of at most nine arrows between them")
        self.many = many
        self.arrows = list(arrows)

    def pieces(self):
        """The lists of points that hang together."""
        return hanging(list(range(self.many)), self.arrows)

    def is_well(self, point):
        """Whether arrows come in alone at the point."""
        return all([tail != point for tail, head in self.arrows])

    def is_spring(self, point):
        """Whether arrows go out alone at the point."""
        return all([head != point for tail, head in self.arrows])

    def turned(self, point):
        """The drawing with all arrows at the point turned about."""
        return Drawing(self.many, [arrow[::-1] if point in arrow else arrow for arrow in self.arrows])

    def kinds(self):
        """For each piece its kind, or None."""
        return [kind_of(piece, [arrow for arrow in self.arrows if arrow[0] in piece]) for piece in self.pieces()]
