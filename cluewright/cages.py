"""Cages: lots of squares whose numbers make a told one by adding, taking away, multiplying or parting."""

from cluewright.boards import in_order, latin
from cluewright.errors import BadRule, BadSize
from cluewright.rules import check_spots, known_of
from cluewright.squares import lots_of

DEEDS = "+-x/"


class Cage:
    """The numbers of squares, none below nought, make a told one by a deed: + or x of all, - or / from the greatest."""

    def __init__(self, spots, whole, deed):
        if len(deed) != 1 or deed not in DEEDS:
            raise BadRule("a cage's deed is one of + - x /")
        self.spots = check_spots(spots)
        self.whole = whole
        self.deed = deed

    def may(self, values):
        """Tell whether a row of numbers, None for those not known, may still keep it, by the known ones alone."""
        if None not in values:
            return made_by(values, self.deed) == self.whole
        if self.deed == "+":
            return sum(known_of(values)) <= self.whole
        if self.deed == "x" and self.whole > 0:
            return goes_into(product(known_of(values)), self.whole)
        return True

    def shown(self):
        """Return (kind, squares, number, deed)."""
        return ("cage", self.spots, self.whole, self.deed)


def goes_into(part, whole):
    """Tell whether a number goes into another, nought into none."""
    return part != 0 and whole % part == 0


def product(values):
    """Return the product of numbers, one for none."""
    whole = 1
    for value in values:
        whole = whole * value
    return whole


def made_by(values, deed):
    """Return what numbers make by a deed, None where it can't be done in whole numbers; BadRule for none."""
    if len(values) == 0:
        raise BadRule("a deed is done to one number or more")
    if deed == "+":
        return sum(values)
    if deed == "x":
        return product(values)
    greatest = max(values)
    if deed == "-":
        return greatest - (sum(values) - greatest)
    others = product(but_greatest(values))
    if goes_into(others, greatest):
        return greatest // others
    return None


def but_greatest(values):
    """Return numbers in order without the greatest."""
    return sorted(values)[:-1]


def cages_of(rows, goals):
    """Return the cages of rows of letters by a table of letters to (number, deed), in order; BadText first, BadRule."""
    lots = lots_of(rows)
    if sorted(goals) != sorted(lots):
        raise BadRule("the goals aren't told for just the rows' letters")
    return tuple([Cage(lots[letter], goals[letter][0], goals[letter][1]) for letter in lots])


def cage_board(rows, goals):
    """Return the latin board of rows of letters with their cages; BadRule, BadSize where it isn't square, BadText."""
    cages = cages_of(rows, goals)
    if len(rows) != len(rows[0]):
        raise BadSize("the board has as many rows as columns")
    return latin(len(rows), cages)


def goals_of(rows, table, deeds):
    """Return a table of letters to (number, deed) that numbers keep, the first deed that gives none below nought."""
    lots = lots_of(rows)
    return {letter: goal_of([table[spot] for spot in lots[letter]], deeds) for letter in lots}


def goal_of(values, deeds):
    """Return (number, deed) of the first deed by which numbers make one that isn't below nought; BadRule."""
    for deed in deeds:
        whole = made_by(values, deed)
        if whole is not None and whole >= 0:
            return (whole, deed)
    raise BadRule("none of the deeds makes a number of these")


def rows_that_make(many, whole, deed, numbers):
    """Return all rising rows of so many numbers, alike ones too, that make a told one, in order; BadRule."""
    return tuple([row for row in rising_rows(many, in_order(numbers)) if made_by(row, deed) == whole])


def rising_rows(many, numbers):
    """Return all rows of so many numbers, of some in order, that never fall, in order."""
    rows = [()]
    for _ in range(many):
        rows = [(*row, number) for row in rows for number in numbers if row == () or row[-1] <= number]
    return rows
