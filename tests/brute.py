"""What the tests check the program against: all tables and all ways, tried plainly, with rules told again here."""

from itertools import product
from math import prod


def runs(values):
    text = "".join("1" if value == 1 else "0" for value in values)
    return tuple(len(run) for run in text.split("0") if run)


def tops(values):
    return sum(1 for at in range(len(values)) if max(values[:at], default=-1) < values[at])


def makes(values, deed):
    """Return what numbers make by a deed, None where it can't be done in whole numbers."""
    rest = list(values)
    top = max(rest)
    rest.remove(top)
    if deed == "+":
        return top + sum(rest)
    if deed == "x":
        return top * prod(rest)
    if deed == "-":
        return top - sum(rest)
    whole = [one for one in range(top + 1) if one * prod(rest) == top and prod(rest) > 0]
    return whole[0] if whole else None


def holds(shown, values):
    """Tell whether a row of numbers, all known, keeps the rule that shows itself so."""
    kind = shown[0]
    if kind == "unlike":
        return len(set(values)) == len(values)
    if kind == "sum":
        return sum(values) == shown[2]
    if kind == "less":
        return values[0] < values[1]
    if kind == "gap":
        return abs(values[0] - values[1]) == shown[2]
    if kind == "tops":
        return tops(values) == shown[2]
    if kind == "runs":
        return runs(values) == shown[2]
    if kind == "count":
        return list(values).count(shown[2]) == shown[3]
    if kind == "cage":
        return makes(values, shown[3]) == shown[2]
    raise AssertionError(kind)


def all_ways(values, rule):
    """Return the rows of the numbers left that keep a rule."""
    rows = product(*[values[spot] for spot in rule.spots])
    return [row for row in rows if holds(rule.shown(), row)]


def left_out(values, rule):
    """Return the (square, number) pairs that none of a rule's ways has."""
    good = {pair for row in all_ways(values, rule) for pair in zip(rule.spots, row)}
    pairs = [(spot, value) for spot in rule.spots for value in values[spot]]
    return tuple(pair for pair in pairs if pair not in good)


def all_solutions(board):
    """Return the solutions, by going through all tables."""
    spots = sorted(board.options)
    found = []
    for row in product(*[board.options[spot] for spot in spots]):
        table = dict(zip(spots, row))
        if all(holds(rule.shown(), [table[spot] for spot in rule.spots]) for rule in board.rules):
            found.append(table)
    return found


def steps_told(board):
    """Return (steps, values left), each step found anew from the first rule on."""
    values = dict(board.options)
    told = []
    while all(values.values()):
        first = [(place, pairs[0]) for place, pairs in
                 enumerate(left_out(values, rule) for rule in board.rules) if pairs]
        if not first:
            break
        place, (spot, value) = first[0]
        told.append((place, spot, value))
        values[spot] = tuple(one for one in values[spot] if one != value)
    return tuple(told), values
