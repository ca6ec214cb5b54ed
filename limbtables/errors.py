"""The refusals: one base, and each of the others straight under it."""


class LimbError(ValueError):
    """Any refusal."""


class NoGround(LimbError):
    """What tells no ground."""


class NoNumber(LimbError):
    """A bottom that has no number, or a division by nought."""


class NoTable(LimbError):
    """Tables that do not fit one another, or the size handed in."""


class NoDrawing(LimbError):
    """What makes no drawing, or is no point or arrow of it."""


class NoKind(LimbError):
    """A drawing of which this is not told."""


class NoStanding(LimbError):
    """What makes no standing, or standings of unlike ground or drawing."""


class NoChange(LimbError):
    """What are no changes of a standing."""


class NoMirror(LimbError):
    """A point at which a standing is not turned."""


class NoRoot(LimbError):
    """A row that is no root."""


class NoText(LimbError):
    """A text in which nothing is written."""


class NoRow(LimbError):
    """A row that a desk does not know."""


class NoName(LimbError):
    """A name by which no standing is kept."""
