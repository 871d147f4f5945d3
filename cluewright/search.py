"""Search: all solutions of a board, in order, by trying numbers square by square."""

from cluewright.boards import in_order
from cluewright.errors import BadSize, NoWay


def solutions(board, most=None):
    """Return all solutions, as tables, by the squares' numbers in order, the first so many where told; BadSize."""
    check_most(most)
    found = []
    lay(board, board.all_spots(), {}, found, most)
    return tuple(found)


def check_most(most):
    """Return how many solutions are asked for at most, None for all; BadSize."""
    if most is not None and most < 0:
        raise BadSize("there are no fewer solutions than none")
    return most


def lay(board, spots, table, found, most):
    """Add the solutions that begin with a table, which stays as it was, to a row, till there are so many."""
    left = {spot: fitting(board, spot, board.options[spot], table) for spot in spots if spot not in table}
    lay_left(board, left, table, found, most)


def lay_left(board, left, table, found, most):
    """Add the solutions that begin with a table and go on by the numbers that its bare squares have left."""
    if is_enough(found, most):
        return
    if left == {}:
        add_solution(board, table, found)
        return
    spot = next_spot(left)
    for value in left[spot]:
        begun = {one: table[one] for one in table}
        begun[spot] = value
        lay_left(board, left_behind(board, left, spot, begun), begun, found, most)


def is_enough(found, most):
    """Tell whether so many are found."""
    return most is not None and len(found) >= most


def add_solution(board, table, found):
    """Add a table to a row where it is a solution, squares in order."""
    # Asked wholly: the squares that the table began with were never tried.
    if board.keeps(table):
        found.append({spot: table[spot] for spot in board.all_spots()})


def next_spot(left):
    """Return the first bare square that has no choice, else the first one."""
    # A square without a choice may come ahead of its turn: solutions stay in order.
    forced = [spot for spot in left if len(left[spot]) < 2]
    return (forced + list(left))[0]


def left_behind(board, left, spot, table):
    """Return the numbers that bare squares have left behind a table's newest square."""
    changed = {}
    for rule in board.with_spot[spot]:
        for one in rule.spots:
            changed[one] = True
    rest = {}
    for one in left:
        if one != spot:
            rest[one] = fitting(board, one, left[one], table) if one in changed else left[one]
    return rest


def fitting(board, spot, values, table):
    """Return the numbers, of some, that a square may have beside a table."""
    tried = {one: table[one] for one in table}
    good = []
    for value in values:
        tried[spot] = value
        if fits(board, spot, tried):
            good.append(value)
    return good


def fits(board, spot, table):
    """Tell whether all rules of a square may still be kept by a table."""
    for rule in board.with_spot[spot]:
        if not rule.may([table.get(one) for one in rule.spots]):
            return False
    return True


def first(board):
    """Return the first solution; NoWay."""
    found = solutions(board, 1)
    if found == ():
        raise NoWay("the board has no solution")
    return found[0]


def how_many(board, most=None):
    """Return how many solutions there are, up to so many where told; BadSize."""
    return len(solutions(board, most))


def is_unique(board):
    """Tell whether there is just one solution."""
    return how_many(board, 2) == 1


def sure(board):
    """Return a table of squares to the numbers that they have in all solutions; NoWay."""
    found = solutions(board)
    if found == ():
        raise NoWay("the board has no solution")
    table = found[0]
    return {spot: table[spot] for spot in table if all([row[spot] == table[spot] for row in found])}


def possible(board):
    """Return a table of all squares to the numbers that they have in some solution, in order, bare for none."""
    found = solutions(board)
    return {spot: in_order([row[spot] for row in found]) for spot in board.all_spots()}


def chances(board, spot):
    """Return ((number, how many solutions have it there), ..) in order, none without, and how many there are."""
    found = solutions(board)
    many = {}
    for row in found:
        many[row[spot]] = many.get(row[spot], 0) + 1
    return (tuple([(value, many[value]) for value in sorted(many)]), len(found))
