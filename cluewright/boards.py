"""Boards: squares with the numbers that they may have, and rules for them."""

from cluewright.errors import BadRule, BadSquare, NoSuch
from cluewright.rules import Unlike, kept
from cluewright.squares import all_squares, boxes, column_of, row_of


class Board:
    """A table of squares to the numbers that they may have, in order, and rules whose squares are there."""

    def __init__(self, values, rules):
        self.options = {spot: in_order(values[spot]) for spot in sorted(values)}
        self.rules = tuple(rules)
        if self.options == {} or any([row == () for row in self.options.values()]):
            raise BadSquare("a board has a square, and each square a number")
        for rule in self.rules:
            if any([spot not in self.options for spot in rule.spots]):
                raise BadRule("a rule has a square that isn't on the board")
        self.with_spot = rules_by_spot(self.options, self.rules)

    def all_spots(self):
        """Return the squares, in order."""
        return tuple(self.options)

    def given(self, clues):
        """Return the board where squares have only the numbers of a table; NoSuch for a square or number not there."""
        for spot in clues:
            if spot not in self.options or clues[spot] not in self.options[spot]:
                raise NoSuch("the board hasn't such a square, or the square not such a number")
        values = {spot: self.options[spot] for spot in self.options}
        for spot in clues:
            values[spot] = (clues[spot],)
        return Board(values, self.rules)

    def without(self, spot, value):
        """Return the board where a square hasn't a number; NoSuch, BadSquare for its last one."""
        if spot not in self.options or value not in self.options[spot]:
            raise NoSuch("the board hasn't such a square, or the square not such a number")
        values = {one: self.options[one] for one in self.options}
        values[spot] = tuple([one for one in self.options[spot] if one != value])
        return Board(values, self.rules)

    def may(self, table):
        """Tell whether a table of some squares to numbers may still keep all rules."""
        return all([rule.may([table.get(spot) for spot in rule.spots]) for rule in self.rules])

    def keeps(self, table):
        """Tell whether a table has all squares with numbers that they may have and keeps all rules."""
        for spot in self.options:
            if spot not in table or table[spot] not in self.options[spot]:
                return False
        return all([kept(rule, table) for rule in self.rules])

    def shown(self):
        """Return ((square, numbers), ..) in order, and what the rules show."""
        return (tuple(self.options.items()), tuple([rule.shown() for rule in self.rules]))


def rules_by_spot(options, rules):
    """Return a table of all squares to the rules that they stand in."""
    lots = {spot: [] for spot in options}
    for rule in rules:
        for spot in rule.spots:
            lots[spot].append(rule)
    return {spot: tuple(lots[spot]) for spot in lots}


def in_order(values):
    """Return numbers in order, each once."""
    return tuple(sorted(set(values)))


def latin(size, more=()):
    """Return the board of numbers from one to a size, unlike in rows and columns, with more rules; BadSquare."""
    numbers = tuple(range(1, size + 1))
    values = {spot: numbers for spot in all_squares(size, size)}
    rows = [Unlike(row_of(y, size)) for y in range(size)]
    columns = [Unlike(column_of(x, size)) for x in range(size)]
    return Board(values, (*rows, *columns, *more))


def boxed(tall, broad, more=()):
    """Return latin's board of tall times broad with boxes of tall rows and broad columns, unlike too; BadSquare."""
    size = tall * broad
    lots = [Unlike(lot) for lot in boxes(size, size, tall, broad)]
    return latin(size, (*lots, *more))


def joined(one, other):
    """Return the board of two boards' squares and rules, numbers that both have where both have a square; BadSquare."""
    values = {spot: one.options[spot] for spot in one.options}
    for spot in other.options:
        if spot in values:
            values[spot] = tuple([number for number in values[spot] if number in other.options[spot]])
        else:
            values[spot] = other.options[spot]
    return Board(values, one.rules + other.rules)
