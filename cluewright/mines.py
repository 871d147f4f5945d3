"""Mines: squares that hide something, told by counts around: all ways, sure squares, and exact chances."""

from math import gcd

from cluewright.errors import BadSize, NoWay
from cluewright.squares import all_squares, around


def shared(one, other):
    """Return the greatest number that goes into both."""
    return gcd(one, other)


def counts_of(spots, high, wide):
    """Return a table of squares to how many of some squares are around each."""
    lot = {spot: True for spot in spots}
    return {spot: len(those_in(lot, around(spot, high, wide))) for spot in all_squares(high, wide)}


def those_in(lot, spots):
    """Return the squares, of some, that a table has."""
    return [spot for spot in spots if spot in lot]


def check_shown(shown, high, wide):
    """Return a table of open squares to counts, none below nought; BadSize for one outside."""
    if any([spot not in all_squares(high, wide) or shown[spot] < 0 for spot in shown]):
        raise BadSize("a square with a count is on the board, and its count nought or more")
    return {spot: shown[spot] for spot in sorted(shown)}


def ways(shown, high, wide, many=None):
    """Return all lots of hidden squares, in order, that fit counts of open ones, so many in all where told; BadSize."""
    known = check_shown(shown, high, wide)
    found = []
    place_on(known, not_open(known, high, wide), (), 0, high, wide, many, found)
    return tuple(found)


def not_open(known, high, wide):
    """Return the squares that a table of open ones hasn't, in order."""
    return tuple([spot for spot in all_squares(high, wide) if spot not in known])


def place_on(known, spots, row, place, high, wide, many, found):
    """Add the lots that begin with a row to what is found, squares from a place on left."""
    left = tuple(spots[place:])
    if may_hide(known, row, left, high, wide):
        lot = {spot: True for spot in row}
        need = {spot: known[spot] - len(those_in(lot, around(spot, high, wide))) for spot in known}
        hide_on(plan_of(known, left, high, wide), need, tuple(row), 0, many, found)


def plan_of(known, left, high, wide):
    """Return, for each square left, it and the (open square, squares left behind it) pairs of the counts around."""
    room = {spot: 0 for spot in known}
    plan = []
    for spot in reversed(left):
        near = those_in(known, around(spot, high, wide))
        plan.append((spot, [(one, room[one]) for one in near]))
        for one in near:
            room[one] += 1
    return plan[::-1]


def hide_on(plan, need, row, place, many, found):
    """Add the lots that begin with a row to what is found, by what counts still need, a lot ahead of longer ones."""
    if many is not None and not len(row) <= many <= len(row) + len(plan) - place:
        return
    if many in (None, len(row)) and all([lacking == 0 for lacking in need.values()]):
        found.append(row)
    for at in range(place, len(plan)):
        spot, near = plan[at]
        if may_stand(near, need, 1):
            less = {one: need[one] for one in need}
            for one, _ in near:
                less[one] -= 1
            hide_on(plan, less, (*row, spot), at + 1, many, found)
        if not may_stand(near, need, 0):
            return


def may_stand(near, need, here):
    """Tell whether the counts around a square may still be kept where it hides so much, one or nought."""
    return all([0 <= need[one] - here <= room for one, room in near])


def may_hide(known, row, left, high, wide):
    """Tell whether counts may still be kept by a row of hidden squares and some squares left."""
    here = {spot: True for spot in row}
    room = {spot: True for spot in left}
    for spot in known:
        near = around(spot, high, wide)
        least = len(those_in(here, near))
        if not least <= known[spot] <= least + len(those_in(room, near)):
            return False
    return True


def sure_squares(shown, high, wide, many=None):
    """Return (squares that hide in all ways, squares that hide in none), in order; NoWay, BadSize."""
    rows = ways(shown, high, wide, many)
    if rows == ():
        raise NoWay("no lot of hidden squares fits the counts")
    times = times_hidden(rows, not_open(shown, high, wide))
    always = tuple([spot for spot in times if times[spot] == len(rows)])
    return (always, tuple([spot for spot in times if times[spot] == 0]))


def times_hidden(rows, spots):
    """Return a table of squares to in how many lots they hide."""
    times = {spot: 0 for spot in spots}
    for row in rows:
        for spot in row:
            times[spot] += 1
    return times


def hidden_chances(shown, high, wide, many):
    """Return a table of squares not open, in order, to the (top, low) chance, made small, of hiding; NoWay, BadSize."""
    rows = ways(shown, high, wide, many)
    if rows == ():
        raise NoWay("no lot of hidden squares fits the counts")
    times = times_hidden(rows, not_open(shown, high, wide))
    return {spot: made_small(times[spot], len(rows)) for spot in times}


def made_small(top, low):
    """Return a chance's two numbers with nothing but one going into both."""
    much = shared(top, low)
    return (top // much, low // much)


def safest(shown, high, wide, many):
    """Return the first square not open with the least chance; NoWay where none is left, BadSize."""
    table = hidden_chances(shown, high, wide, many)
    if table == {}:
        raise NoWay("no square is left")
    found = list(table)[0]
    for spot in table:
        if table[spot][0] * table[found][1] < table[found][0] * table[spot][1]:
            found = spot
    return found


def opened(hidden, spot, high, wide):
    """Return the squares open when one is, in order: it, and those around each open one with none around; BadSize."""
    if spot in hidden or spot not in all_squares(high, wide):
        raise BadSize("a square that hides, or isn't there, isn't opened")
    return opened_from(counts_of(hidden, high, wide), spot, high, wide)


def opened_from(counts, spot, high, wide):
    """Return the squares open when one is, by all squares' counts."""
    seen = {spot: True}
    waiting = [spot]
    while waiting != []:
        one = waiting.pop()
        if counts[one] == 0:
            fresh = [near for near in around(one, high, wide) if near not in seen]
            waiting.extend(fresh)
            for near in fresh:
                seen[near] = True
    return tuple(sorted(seen))


def fewest_clicks(hidden, high, wide):
    """Return the fewest squares to be told, in order, so that all that hide nothing are open."""
    counts = counts_of(hidden, high, wide)
    seen = {spot: True for spot in hidden}
    clicks = []
    bare = [spot for spot in counts if counts[spot] == 0]
    # First the squares with none around: the others that they open need no click of their own.
    for spot in bare + list(counts):
        if spot not in seen:
            clicks.append(spot)
            for one in opened_from(counts, spot, high, wide):
                seen[one] = True
    return tuple(sorted(clicks))


def told_by(hidden, open_spots, high, wide):
    """Return a table of open squares to their counts; BadSize for one that hides, or isn't there."""
    counts = counts_of(hidden, high, wide)
    if any([spot in hidden or spot not in counts for spot in open_spots]):
        raise BadSize("a square that hides, or isn't there, isn't told")
    return {spot: counts[spot] for spot in open_spots}
