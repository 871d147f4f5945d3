"""Bridges: islands joined straight by one or two bridges, none crossing, all hanging together, by told counts."""

from cluewright.errors import BadPaper, BadSize
from cluewright.search import is_enough


def check_islands(islands):
    """Return a table of squares to counts from one to eight; BadSize."""
    if len(islands) == 0 or any([not 1 <= count <= 8 for count in islands.values()]):
        raise BadSize("there is an island or more, and each has one to eight bridges")
    return {spot: islands[spot] for spot in sorted(islands)}


def pairs_of(islands):
    """Return the (island, island) pairs that see each other along a row or column, in order; BadSize."""
    spots = list(check_islands(islands))
    found = []
    for one in spots:
        right = [spot for spot in spots if spot[0] == one[0] and spot[1] > one[1]]
        below = [spot for spot in spots if spot[1] == one[1] and spot[0] > one[0]]
        found.extend([(one, other) for other in right[:1] + below[:1]])
    return tuple(found)


def cross(one, other):
    """Tell whether two pairs' bridges would cross."""
    return runs_through(one, other) or runs_through(other, one)


def runs_through(level, upright):
    """Tell whether a bridge along a row runs through one along a column, not at its ends."""
    (top, left), (bottom, right) = level
    (high, x), (low, other) = upright
    return top == bottom and x == other and left < x < right and high < top < low


def all_bridges(islands, most=None):
    """Return all tables of pairs to one or two bridges that keep counts and hang together: pair by pair in order,
    none, one, two; BadSize."""
    known = check_islands(islands)
    found = []
    build(known, pairs_of(islands), {}, 0, most, found)
    return tuple(found)


def build(known, pairs, table, place, most, found):
    """Add the tables that begin with one to what is found, pairs from a place on left."""
    laid = [pair for pair in table if table[pair] > 0]
    if not any([cross(one, other) for one in laid for other in laid]):
        crossing = {pair: [other for other in pairs if cross(pair, other)] for pair in pairs}
        bridge_on((known, pairs, crossing), table, place, most, found)


def bridge_on(ground, table, place, most, found):
    """Add the tables that begin with one to what is found: no bridge for the first pair left, then one, then two."""
    known, pairs, crossing = ground
    if is_enough(found, most) or not may_hang(ground, table, place):
        return
    if place == len(pairs):
        found.append({pair: table[pair] for pair in pairs if table.get(pair, 0) > 0})
        return
    pair = pairs[place]
    bridge_on(ground, table, place + 1, most, found)
    if not any([table.get(other, 0) > 0 for other in crossing[pair]]):
        for many in (1, 2):
            begun = {one: table[one] for one in table}
            begun[pair] = many
            bridge_on(ground, begun, place + 1, most, found)


def may_hang(ground, table, place):
    """Tell whether counts may still be kept, and all hang together, by a table and what pairs from a place on may
    have beside it."""
    known, pairs, crossing = ground
    if not may_build(known, pairs, table, place):
        return False
    need = needs_of(known, table)
    whole = {pair: table[pair] for pair in table}
    for pair in pairs[place:]:
        if not any([table.get(other, 0) > 0 for other in crossing[pair]]):
            whole[pair] = min(2, need[pair[0]], need[pair[1]])
    return all([lacking <= 0 for lacking in needs_of(known, whole).values()]) and hang_together(known, whole)


def needs_of(known, table):
    """Return a table of islands to how many bridges they lack."""
    need = {spot: known[spot] for spot in known}
    for pair in table:
        for spot in pair:
            need[spot] -= table[pair]
    return need


def may_build(known, pairs, table, place):
    """Tell whether counts may still be kept by a table and two bridges for each pair from a place on."""
    need = needs_of(known, table)
    room = needs_of({spot: 0 for spot in known}, {pair: -2 for pair in pairs[place:]})
    return all([0 <= need[spot] <= room[spot] for spot in known])


def hang_together(known, table):
    """Tell whether all islands hang together by a table's bridges."""
    near = {spot: [] for spot in known}
    for one, other in [pair for pair in table if table[pair] > 0]:
        near[one].append(other)
        near[other].append(one)
    seen = {spot: True for spot in list(known)[:1]}
    waiting = list(seen)
    while waiting != []:
        here = waiting.pop()
        for spot in near[here]:
            if spot not in seen:
                seen[spot] = True
                waiting.append(spot)
    return len(seen) == len(known)


def check_bridges(islands, table):
    """Return how many bridges a table has that keeps counts, crosses nowhere and hangs together; BadPaper, BadSize."""
    known = check_islands(islands)
    pairs = pairs_of(islands)
    if any([pair not in pairs or table[pair] not in (1, 2) for pair in table]):
        raise BadPaper("a bridge is one of two or one, between islands that see each other")
    if any([lacking != 0 for lacking in needs_of(known, table).values()]):
        raise BadPaper("an island has another count of bridges")
    if any([cross(one, other) for one in table for other in table]):
        raise BadPaper("two bridges cross")
    if not hang_together(known, table):
        raise BadPaper("the islands don't hang together")
    return sum(list(table.values()))


def bridge_counts(table):
    """Return a table of islands to how many bridges they have, in order."""
    counts = {}
    for pair in table:
        for spot in pair:
            counts[spot] = counts.get(spot, 0) + table[pair]
    return {spot: counts[spot] for spot in sorted(counts)}


def sure_bridges(islands):
    """Return a table of pairs to the bridges that they have in all ways, noughts too; BadSize, BadPaper for no way."""
    rows = all_bridges(islands)
    if rows == ():
        raise BadPaper("there is no way for the bridges to be")
    least = {pair: rows[0].get(pair, 0) for pair in pairs_of(islands)}
    return {pair: least[pair] for pair in least if all([row.get(pair, 0) == least[pair] for row in rows])}
