"""The errors of cluewright: all stand under GridFault, a ValueError."""


class GridFault(ValueError):
    """What cluewright refuses."""


class BadSquare(GridFault):
    """A square, or a lot of squares, that can't be."""


class BadRule(GridFault):
    """A rule that can't be."""


class BadStep(GridFault):
    """A step that doesn't follow."""


class BadPaper(GridFault):
    """A paper that doesn't show what it is to show."""


class BadSize(GridFault):
    """A count or number that is out of bounds."""


class BadText(GridFault):
    """A text that isn't one of the language."""


class BadStore(GridFault):
    """Kept words that aren't whole."""


class NoWay(GridFault):
    """No solution, or no way, is there."""


class NoSuch(GridFault):
    """What isn't there."""
