"""Pictures: rows and columns of filled squares told by their runs, filled step by step and wholly."""

from math import comb

from cluewright.boards import Board
from cluewright.errors import BadRule, NoWay
from cluewright.rules import Runs, runs_of
from cluewright.search import check_most, is_enough
from cluewright.squares import all_squares, column_of, row_of


def check_line(runs, size):
    """Return runs that fit in a line of a size; BadRule."""
    found = tuple(runs)
    if any([run < 1 for run in found]) or taken_up(found) > size:
        raise BadRule("the runs don't fit in the line")
    return found


def taken_up(runs):
    """Return how many squares runs take with one bare square between each two."""
    return sum(runs) + max(0, len(runs) - 1)


def all_lines(runs, size):
    """Return all lines of noughts and ones with runs, in order of their first ones; BadRule."""
    found = check_line(runs, size)
    if found == ():
        return ((0,) * size,)
    rows = []
    for start in range(size - taken_up(found) + 1):
        # Behind each run but the last stands a nought of its own.
        begun = (0,) * start + (1,) * found[0] + (0,) * min(1, len(found) - 1)
        rows.extend([begun + row for row in all_lines(found[1:], size - len(begun))])
    return tuple(rows)


def sure_line(runs, known):
    """Return a line with what all ways have there, None elsewhere, known places kept; NoWay, BadRule."""
    found = check_line(runs, len(known))
    if not has_line(found, known):
        raise NoWay("no line with the runs has the known places")
    return tuple([sure_at(found, known, place) for place in range(len(known))])


def sure_at(runs, known, place):
    """Return what all lines with runs and known places have at a place, None where they aren't alike."""
    if known[place] is not None:
        return known[place]
    may = [value for value in (0, 1) if has_line(runs, set_at(known, place, value))]
    return may[0] if len(may) == 1 else None


def set_at(known, place, value):
    """Return known places with one more, or another."""
    return tuple(known[:place]) + (value,) + tuple(known[place + 1:])


def has_line(runs, known):
    """Tell whether a line with runs has all known places, without telling the lines."""
    # Place by place: the (runs begun, squares of the last) that some line has there; none of the last once it is over.
    states = {(0, 0): True}
    for value in known:
        states = {state: True for begun, long in states for state in next_states(runs, begun, long, value)}
    return any([begun == len(runs) and (long == 0 or long == runs[-1]) for begun, long in states])


def next_states(runs, begun, long, value):
    """Return the states behind one more place, a nought, a one, or either."""
    found = []
    if value != 1 and (long == 0 or long == runs[begun - 1]):
        found.append((begun, 0))
    if value != 0 and long > 0 and long < runs[begun - 1]:
        found.append((begun, long + 1))
    if value != 0 and long == 0 and begun < len(runs):
        found.append((begun + 1, 1))
    return found


def agrees(row, known):
    """Tell whether a line has all known places."""
    return all([value is None or value == here for here, value in zip(row, known)])


def runs_both(rows):
    """Return (runs of each row, runs of each column) of a picture of noughts and ones."""
    return (tuple([runs_of(row) for row in rows]), tuple([runs_of(column) for column in zip(*rows)]))


def filled(rows, columns):
    """Return (steps, picture) by lines alone: steps are ("row" or "column", place, line), None where unknown; NoWay."""
    return filled_from(rows, columns, [(None,) * len(columns) for _ in rows])


def filled_from(rows, columns, picture):
    """Return (steps, picture) as filled does, from a picture with some squares known on; NoWay."""
    steps = []
    now = tuple([tuple(row) for row in picture])
    before = None
    while before != now:
        before = now
        now = pass_over(rows, "row", now, steps)
        # With no row there is nothing to turn: the columns are bare.
        turned = tuple([tuple([row[x] for row in now]) for x in range(len(columns))])
        across = pass_over(columns, "column", turned, steps)
        now = tuple([tuple([column[y] for column in across]) for y in range(len(rows))])
    return (tuple(steps), now)


def pass_over(lines, name, picture, steps):
    """Return a picture's lines with all that is sure by each alone, and add the changed ones to a row of steps."""
    rows = []
    for place, runs in enumerate(lines):
        row = sure_line(runs, picture[place])
        if row != picture[place]:
            steps.append((name, place, row))
        rows.append(row)
    return tuple(rows)


def board_of(rows, columns):
    """Return the board of a picture's runs: noughts and ones; BadRule, BadSquare."""
    across = [check_line(runs, len(columns)) for runs in rows]
    down = [check_line(runs, len(rows)) for runs in columns]
    values = {spot: (0, 1) for spot in all_squares(len(rows), len(columns))}
    rules = [Runs(row_of(y, len(columns)), runs) for y, runs in enumerate(across)]
    return Board(values, rules + [Runs(column_of(x, len(rows)), runs) for x, runs in enumerate(down)])


def pictures(rows, columns, most=None):
    """Return all pictures with runs, in order, the first so many where told; BadRule, BadSize."""
    board_of(rows, columns)
    check_most(most)
    found = []
    fill_on(rows, columns, [(None,) * len(columns) for _ in rows], found, most)
    return tuple(found)


def fill_on(rows, columns, picture, found, most):
    """Add the pictures that have a picture's known squares to a row, in order, till there are so many."""
    if is_enough(found, most):
        return
    try:
        whole = filled_from(rows, columns, picture)[1]
    except NoWay:
        return
    spot = first_unknown(whole)
    if spot is None:
        found.append(whole)
        return
    for value in (0, 1):
        fill_on(rows, columns, with_spot(whole, spot, value), found, most)


def first_unknown(picture):
    """Return the first square of a picture that isn't known, None for none."""
    for y, row in enumerate(picture):
        if None in row:
            return (y, row.index(None))
    return None


def with_spot(picture, spot, value):
    """Return a picture with a square's nought or one."""
    return [set_at(row, spot[1], value) if y == spot[0] else row for y, row in enumerate(picture)]


def is_plain(picture):
    """Tell whether a picture is the only one with its runs."""
    rows, columns = runs_both(picture)
    return len(pictures(rows, columns, 2)) == 1


def spare(runs, size):
    """Return how far each run may move at most, the size where there is none; BadRule."""
    return size - taken_up(check_line(runs, size))


def how_many_lines(runs, size):
    """Return how many lines have runs, without telling them; BadRule."""
    found = check_line(runs, size)
    return comb(spare(found, size) + len(found), len(found))
