"""Makers: clues taken from a solution till none is too many, with papers that each is needed."""

from itertools import combinations

from cluewright.errors import BadPaper, BadSize, NoWay
from cluewright.papers import check_unique, paper_for
from cluewright.search import is_unique, solutions


def clues_for(board, table, order):
    """Return clues by squares, in order, none too many: a solution's, each left out in an order if it stays alone;
    BadSize."""
    if not board.keeps(table) or sorted(order) != sorted(table):
        raise BadSize("clues are made of a solution, and an order of its squares")
    clues = picked(table, sorted(table))
    for spot in order:
        fewer = all_but(clues, spot)
        if is_unique(board.given(fewer)):
            clues = fewer
    return clues


def picked(table, spots):
    """Return the part of a table that some squares have."""
    return {spot: table[spot] for spot in spots}


def all_but(clues, spot):
    """Return clues without a square's."""
    return {one: clues[one] for one in clues if one != spot}


def others_for(board, clues):
    """Return a table of each clue's square to a second solution without it, None where there is none; NoWay."""
    found = solutions(board.given(clues), 2)
    if len(found) != 1:
        raise NoWay("the clues don't leave just one solution")
    return {spot: second(board.given(all_but(clues, spot)), found[0]) for spot in sorted(clues)}


def second(board, table):
    """Return the first solution but one, None for none."""
    for row in solutions(board, 2):
        if row != table:
            return row
    return None


def check_needed(board, clues, paper, others):
    """Return the only solution, where each clue is needed: a second solution keeps all but it; BadPaper, BadStep."""
    if sorted(others) != sorted(clues):
        raise BadPaper("the other solutions don't stand at the clues' squares")
    for spot in clues:
        row = others[spot]
        if row is None or not board.keeps(row) or row.get(spot) == clues[spot]:
            raise BadPaper("a clue isn't shown to be needed")
        if any([row.get(one) != clues[one] for one in clues if one != spot]):
            raise BadPaper("another clue isn't kept either")
    return check_unique(board.given(clues), paper)


def made(board, table, order):
    """Return (clues, paper, others) of a puzzle made of a solution by an order, checked."""
    clues = clues_for(board, table, order)
    paper = paper_for(board.given(clues))
    others = others_for(board, clues)
    check_needed(board, clues, paper, others)
    return (clues, paper, others)


def fewest(board, table):
    """Return the fewest clues that leave a solution alone, the first such lot in order; BadSize past nine squares."""
    if not board.keeps(table) or len(table) > 9:
        raise BadSize("the fewest clues are told of a solution of nine squares at most")
    spots = sorted(table)
    for many in range(len(spots)):
        for lot in combinations(spots, many):
            if is_unique(board.given(picked(table, lot))):
                return picked(table, lot)
    return picked(table, spots)


def quarrels(board, tables):
    """Return the ((lower, upper), squares in which these two solutions differ), in order."""
    pairs = [(lower, upper) for lower in range(len(tables)) for upper in range(lower + 1, len(tables))]
    return tuple([((lower, upper), differing(board, tables[lower], tables[upper])) for lower, upper in pairs])


def differing(board, one, other):
    """Return the squares in which two tables differ, in order."""
    return tuple([spot for spot in board.all_spots() if one[spot] != other[spot]])


def hits_all(clues, lots):
    """Tell whether clues' squares have one at least of each lot."""
    return all([any([spot in clues for spot in lot]) for lot in lots])
