"""The errors of the package, one class for each kind of failure.

An error whose class has attributes is created with them; Python itself keeps
what an error is created with as its message.
"""


class FlagError(ValueError):
    """The class that every error of the package derives from."""


class NotPattern(FlagError):
    """A value is not a valid pattern: a rule is broken at a place."""

    def __init__(self, rule, place):
        self.rule = rule
        self.place = place


class NotOrder(FlagError):
    """A value cannot be the order of a class."""


class NotGlued(FlagError):
    """Tiles cannot be glued: the number of the tile and of its side, or -1."""

    def __init__(self, tile, side):
        self.tile = tile
        self.side = side


class NotText(FlagError):
    """A text has another form: the length of its longest beginning that fits."""

    def __init__(self, place):
        self.place = place


class NotFolding(FlagError):
    """A value is not a folding of a pattern: the first place that is wrong, or -1."""

    def __init__(self, place):
        self.place = place


class TooMany(FlagError):
    """Something would be greater than a limit."""

    def __init__(self, limit):
        self.limit = limit


class NotName(FlagError):
    """A value is not the name of a pattern."""


class NotRecipe(FlagError):
    """A value is not a valid recipe: a rule is broken at a place."""

    def __init__(self, rule, place):
        self.rule = rule
        self.place = place


class NotCover(FlagError):
    """A value is not a cover of a pattern."""


class NotBall(FlagError):
    """A pattern does not lie on a ball."""


class NotPlane(FlagError):
    """A pattern does not lie on the plane."""


class NotDeed(FlagError):
    """A value is not a deed for a pattern."""


class NotDone(FlagError):
    """One of several deeds was not done: its index."""

    def __init__(self, place):
        self.place = place


class NothingLeft(FlagError):
    """There is no deed to take back or to do again."""
