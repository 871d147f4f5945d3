"""Steps: what follows from a board at once, told one by one, each checked by itself."""

from cluewright.cages import Cage, product
from cluewright.errors import BadStep
from cluewright.rules import Count, Runs, Sum, Tops, Unlike, runs_of, tops


def follows(values, rule):
    """Return the (square, number) pairs that no way to keep a rule has, by trying all ways, in order."""
    good = {}
    row_by_row(values, rule, (), good)
    return tuple([(spot, value) for spot in rule.spots for value in sorted(values[spot]) if (spot, value) not in good])


def row_by_row(values, rule, row, good):
    """Mark in a table the (square, number) pairs of all ways to keep a rule that begin with a row."""
    if goes_on(values, rule, tuple(row), good, {}):
        for spot, value in zip(rule.spots, row):
            good[(spot, value)] = True


def goes_on(values, rule, row, good, tried):
    """Tell whether a way to keep a rule begins with a row, and mark in a table the pairs that ways have behind it."""
    left = len(rule.spots) - len(row)
    if not rule.may(list(row) + [None] * left):
        return False
    if left == 0:
        return True
    # Rows alike in what counts go on alike: the second has nothing more to mark.
    key = (left, what_counts(rule, row))
    if key not in tried:
        spot = rule.spots[len(row)]
        found = [value for value in values[spot] if goes_on(values, rule, (*row, value), good, tried)]
        for value in found:
            good[(spot, value)] = True
        tried[key] = found != []
    return tried[key]


def what_counts(rule, row):
    """Return what alone, of a row of a rule's first numbers, tells in which ways it may go on."""
    if isinstance(rule, Unlike):
        return tuple(sorted(row))
    if isinstance(rule, Sum):
        return sum(row)
    if isinstance(rule, Count):
        return len([value for value in row if value == rule.value])
    if isinstance(rule, Tops):
        return (tops(row), max(row, default=0))
    if isinstance(rule, Runs):
        return (runs_of(row), row[-1:] == (1,))
    if isinstance(rule, Cage):
        return what_counts_in_cage(rule.deed, row)
    return row


def what_counts_in_cage(deed, row):
    """Return what alone, of a row of a cage's first numbers, tells in which ways it may go on."""
    if deed == "+":
        return sum(row)
    if deed == "x":
        return product(row)
    if deed == "-":
        return (sum(row), max(row, default=0))
    return (product(row), max(row, default=0))


def next_step(values, rules):
    """Return the first (rule's place, square, number) that a rule leaves out, None for none."""
    return first_step(values, rules, {})


def first_step(values, rules, quiet):
    """Return next_step's answer, rules' places marked as quiet passed over; mark the rules that leave out nothing."""
    for place, rule in enumerate(rules):
        if place not in quiet:
            pairs = follows(values, rule)
            if pairs != ():
                return (place, pairs[0][0], pairs[0][1])
            quiet[place] = True
    return None


def steps(board):
    """Return (steps, values left): all that follows, one by one; values are bare where nothing can be."""
    values = {spot: board.options[spot] for spot in board.options}
    quiet = {}
    rows = []
    step = first_step(values, board.rules, quiet)
    while step is not None:
        rows.append(step)
        values = taken(values, step)
        # A rule without the square leaves out no more than before.
        quiet = {place: True for place in quiet if step[1] not in board.rules[place].spots}
        step = None if is_closed(values) else first_step(values, board.rules, quiet)
    return (tuple(rows), values)


def taken(values, step):
    """Return values without a step's number."""
    return {spot: tuple([one for one in values[spot] if (spot, one) != (step[1], step[2])]) for spot in values}


def check_steps(board, rows):
    """Return the values left behind steps, each of which its rule leaves out; BadStep."""
    values = {spot: board.options[spot] for spot in board.options}
    for place, spot, value in rows:
        if not 0 <= place < len(board.rules) or (spot, value) not in follows(values, board.rules[place]):
            raise BadStep("a step's rule doesn't leave out its number")
        values = taken(values, (place, spot, value))
    return values


def is_done(values):
    """Tell whether each square has just one number left."""
    return all([len(row) == 1 for row in values.values()])


def is_closed(values):
    """Tell whether a square has no number left."""
    return any([len(row) == 0 for row in values.values()])


def only_places(values, rule):
    """Return the (square, number) pairs of an Unlike rule, with as many numbers as squares, where one square alone
    may have the number, and others too, by numbers; none for another rule."""
    if not isinstance(rule, Unlike):
        return ()
    places = {}
    for spot in rule.spots:
        for value in values[spot]:
            places.setdefault(value, []).append(spot)
    if len(places) != len(rule.spots):
        return ()
    alone = [(places[value][0], value) for value in sorted(places) if len(places[value]) == 1]
    return tuple([(spot, value) for spot, value in alone if len(values[spot]) > 1])


def told_step(step):
    """Return a step's words, as one text."""
    place, spot, value = step
    return f"rule {place}: not {value} at {spot[0]},{spot[1]}"


def hardness(board):
    """Return (how many steps follow, whether each square has one number then, numbers left less squares)."""
    rows, values = steps(board)
    return (len(rows), is_done(values), sum([len(row) for row in values.values()]) - len(values))
