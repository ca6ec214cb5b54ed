"""A checker of papers about a standing: it multiplies tables and looks at ranks, whoever found the papers."""

from limbtables.forms import worth
from limbtables.standings import Standing, are_changes, count_maps, side_of, stands_on
from limbtables.tables import plain, product


def is_beside(standing, thing):
    """Whether a thing of whatever kind is a standing of the ground and the drawing of this one."""
    return isinstance(thing, Standing) and stands_on(thing, standing.ground, standing.drawing)


def are_backs(standing, changes, backs):
    """Whether two things of whatever kind are changes of a standing and, for each, its back."""
    if not are_changes(standing, changes) or not are_changes(standing, backs):
        return False
    ground = standing.ground
    return all([product(ground, change, back) == plain(ground, size)
                for change, back, size in zip(changes, backs, standing.sizes)])


def is_led(standing, other, changes, backs):
    """Whether changes, with their backs, lead a standing to another one of its ground and drawing."""
    if standing.sizes != other.sizes or not are_backs(standing, changes, backs):
        return False
    ground = standing.ground
    return all([product(ground, backs[head], product(ground, before, changes[tail])) == after
                for (tail, head), before, after in zip(standing.drawing.arrows, standing.tables, other.tables)])


def is_plain(standing):
    """Whether the sizes of a standing are worth 1 and only numbers map it to itself."""
    return worth(standing.drawing, standing.sizes) == 1 and count_maps(standing, standing) == 1


def lets_by_change(standing, other, changes, backs):
    """Whether the changes lead the standing to the other one."""
    return is_beside(standing, other) and is_led(standing, other, changes, backs)


def lets_by_apart(standing, parts, changes, backs):
    """Whether the changes lead the standing to plain parts side by side."""
    if not isinstance(parts, list) or not all([is_beside(standing, part) for part in parts]):
        return False
    # Asked first, so that no table is made of parts that are far too many.
    if standing.sizes != [sum([part.sizes[k] for part in parts]) for k in range(standing.drawing.many)]:
        return False
    whole = side_of(standing.ground, standing.drawing, parts)
    return is_led(standing, whole, changes, backs) and all([is_plain(part) for part in parts])


def lets_by_unlike(standing, other, part):
    """Whether there are not as many maps from the part to the standing as to the other one."""
    if not is_beside(standing, other) or not is_beside(standing, part):
        return False
    return count_maps(part, standing) != count_maps(part, other)


def lets_by(standing, paper):
    """Whether a paper about a standing, a thing of whatever kind, is right."""
    if not isinstance(paper, tuple) or not paper:
        return False
    if paper[0] == "change" and len(paper) == 4:
        return lets_by_change(standing, paper[1], paper[2], paper[3])
    if paper[0] == "apart" and len(paper) == 4:
        return lets_by_apart(standing, paper[1], paper[2], paper[3])
    if paper[0] == "unlike" and len(paper) == 3:
        return lets_by_unlike(standing, paper[1], paper[2])
    return paper == ("fixed",) and count_maps(standing, standing) == 1
