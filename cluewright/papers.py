"""Papers: that a board has one solution, or none, by steps and by trying both of a number and not."""

from cluewright.boards import Board
from cluewright.errors import BadPaper, BadSquare, NoWay
from cluewright.steps import check_steps, is_closed, is_done, steps


def paper_for(board):
    """Return a paper of all solutions: (steps, ()) where these end it, or (steps, (square, number, with, without))."""
    rows, values = steps(board)
    if is_closed(values) or is_done(values):
        return (rows, ())
    spot = first_open(values)
    value = min(values[spot])
    having = paper_for(with_value(board, values, spot, value))
    lacking = paper_for(less(board, values, spot, value))
    return (rows, (spot, value, having, lacking))


def first_open(values):
    """Return the square with the fewest numbers left above one, the first of such."""
    found = None
    for spot in sorted(values):
        if len(values[spot]) > 1 and (found is None or len(values[spot]) < len(values[found])):
            found = spot
    return found


def with_value(board, values, spot, value):
    """Return the board of the values left where a square has a number."""
    left = {one: values[one] for one in values}
    left[spot] = (value,)
    return Board(left, board.rules)


def less(board, values, spot, value):
    """Return the board of the values left where a square hasn't a number."""
    left = {one: values[one] for one in values}
    left[spot] = tuple([one for one in values[spot] if one != value])
    return Board(left, board.rules)


def check_paper(board, paper):
    """Return all solutions that a paper shows, in its order: steps follow, ends are one or none; BadPaper, BadStep."""
    rows, branch = paper
    values = check_steps(board, rows)
    if is_closed(values):
        if branch != ():
            raise BadPaper("the paper goes on where a square has no number left")
        return ()
    if branch == ():
        return checked_end(board, values)
    if len(branch) != 4 or not is_choice(values, branch[0], branch[1]):
        raise BadPaper("the paper tries what is no choice")
    spot, value, having, lacking = branch
    found = check_paper(with_value(board, values, spot, value), having)
    return found + check_paper(less(board, values, spot, value), lacking)


def is_choice(values, spot, value):
    """Tell whether a square has a number left, and another."""
    return spot in values and value in values[spot] and len(values[spot]) > 1


def checked_end(board, values):
    """Return the solutions at an end of a paper, one or none; BadPaper where a square still has a choice."""
    if not is_done(values):
        raise BadPaper("the paper ends where a square has more than one number left")
    table = {spot: values[spot][0] for spot in values}
    if board.keeps(table):
        return (table,)
    return ()


def check_unique(board, paper):
    """Return the only solution that a paper shows; BadPaper for none or many, BadStep."""
    found = check_paper(board, paper)
    if len(found) != 1:
        raise BadPaper("the paper doesn't show just one solution")
    return found[0]


def check_none(board, paper):
    """Return True where a paper shows that there is no solution; BadPaper, BadStep."""
    if check_paper(board, paper) != ():
        raise BadPaper("the paper shows a solution")
    return True


def size_of(paper):
    """Return (steps, choices) of a paper in all."""
    rows, branch = paper
    if branch == ():
        return (len(rows), 0)
    having = size_of(branch[2])
    lacking = size_of(branch[3])
    return (len(rows) + having[0] + lacking[0], 1 + having[1] + lacking[1])


def depth_of(paper):
    """Return how many choices stand one within another at most."""
    branch = paper[1]
    if branch == ():
        return 0
    return 1 + max(depth_of(branch[2]), depth_of(branch[3]))


def solved(board):
    """Return the only solution by a checked paper; NoWay for none or many."""
    found = []
    two_by_steps(board, found)
    if len(found) != 1:
        raise NoWay("the board hasn't just one solution")
    return check_unique(board, paper_for(board))


def two_by_steps(board, found):
    """Add the solutions at the ends of a board's paper to a row, till there are two."""
    # The paper isn't written: one of very many solutions would take too long.
    values = steps(board)[1]
    if is_closed(values):
        return
    if is_done(values):
        found.extend(checked_end(board, values))
        return
    spot = first_open(values)
    value = min(values[spot])
    two_by_steps(with_value(board, values, spot, value), found)
    if len(found) < 2:
        two_by_steps(less(board, values, spot, value), found)


def choice_free(board):
    """Tell whether steps alone come to an end."""
    values = steps(board)[1]
    return is_closed(values) or is_done(values)


def narrowed(board, table):
    """Return the board where squares of a table have its numbers alone, others as they are; BadSquare, for none too."""
    if any([spot not in board.options for spot in table]):
        raise BadSquare("a square isn't on the board")
    values = {spot: board.options[spot] for spot in board.options}
    for spot in table:
        values[spot] = table[spot]
    return Board(values, board.rules)
