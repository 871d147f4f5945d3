"""Rivers: islands of told sizes that don't touch, and one water about them that has no full two by two."""

from cluewright.errors import BadPaper, BadSize
from cluewright.search import is_enough
from cluewright.squares import all_squares, beside, box_at, hangs, reached
from cluewright.walls import lots_from, owners_of


def check_hills(hills, high, wide):
    """Return a table of squares to sizes, one or more, that leave room; BadSize, BadSquare."""
    spots = all_squares(high, wide)
    if any([spot not in spots or hills[spot] < 1 for spot in hills]) or sum(list(hills.values())) > len(spots):
        raise BadSize("heads stand on the board, and it has room for their sizes")
    return {spot: hills[spot] for spot in sorted(hills)}


def pools(spots, high, wide):
    """Return the lowest corners of two by two squares that are all of a lot, in order."""
    lot = {spot: True for spot in spots}
    corners = [(y, x) for y in range(high - 1) for x in range(wide - 1)]
    return tuple([(y, x) for y, x in corners if all([spot in lot for spot in box_at(y, x, 2, 2)])])


def rivers(hills, high, wide, most=None):
    """Return all tables of heads to islands, in order of heads and islands, the first so many where told; BadSize."""
    known = check_hills(hills, high, wide)
    found = []
    flow_on(known, list(known), {}, high, wide, most, found)
    return tuple(found)


def flow_on(known, left, table, high, wide, most, found):
    """Add the tables that begin with one to what is found, heads left in order."""
    if is_enough(found, most):
        return
    if len(left) == 0:
        if keeps_all(known, table, high, wide):
            found.append({head: table[head] for head in sorted(table)})
        return
    if not may_flow(known, left, table, high, wide):
        return
    head = left[0]
    for island in lots_from(head, known[head], ground_of(known, table, head, high, wide), high, wide):
        begun = {one: table[one] for one in table}
        begun[head] = island
        flow_on(known, left[1:], begun, high, wide, most, found)


def ground_of(known, table, head, high, wide):
    """Return the squares that a head's island may take, as a table: not beside other islands and heads."""
    land = owners_of(table)
    barred = {spot: True for spot in land}
    for spot in [*land, *known]:
        if spot != head:
            barred[spot] = True
            for near in beside(spot, high, wide):
                barred[near] = True
    return {spot: True for spot in all_squares(high, wide) if spot not in barred or spot == head}


def may_flow(known, left, table, high, wide):
    """Tell whether each head left has room for its island, and what is surely water may still be one, without pools."""
    land = owners_of(table)
    within = {spot: True for spot in land}
    for head in left:
        ground = ground_of(known, table, head, high, wide)
        if len(reached(head, ground)) < known[head]:
            return False
        for spot in near_enough(head, known[head], ground, high, wide):
            within[spot] = True
    water = [spot for spot in all_squares(high, wide) if spot not in within]
    wet = {spot: True for spot in all_squares(high, wide) if spot not in land and spot not in left}
    return pools(water, high, wide) == () and hang_within(water, wet)


def near_enough(head, size, ground, high, wide):
    """Return the squares of a ground that an island of a size may have from its head on."""
    seen = {head: True}
    edge = [head]
    for _ in range(size - 1):
        edge = [near for near in next_to(edge, high, wide) if near in ground and near not in seen]
        for spot in edge:
            seen[spot] = True
    return list(seen)


def next_to(spots, high, wide):
    """Return the squares beside some squares, in order."""
    return sorted({near for spot in spots for near in beside(spot, high, wide)})


def hang_within(spots, lot):
    """Tell whether squares, none too, hang together by squares of a lot that has them."""
    if spots == []:
        return True
    there = reached(spots[0], lot)
    return all([spot in there for spot in spots])


def keeps_all(known, table, high, wide):
    """Tell whether a table of heads to islands keeps all that is asked of rivers."""
    try:
        check_rivers(known, table, high, wide)
    except BadPaper:
        return False
    return True


def water_of(table, high, wide):
    """Return the squares of no island, in order."""
    land = owners_of(table)
    return tuple([spot for spot in all_squares(high, wide) if spot not in land])


def check_rivers(hills, table, high, wide):
    """Return how many squares of water there are where all is kept; BadPaper, BadSize."""
    known = check_hills(hills, high, wide)
    if sorted(table) != sorted(known):
        raise BadPaper("the table hasn't just the heads")
    for head in table:
        lot = table[head]
        if head not in lot or len(lot) != known[head] or not hangs(lot):
            raise BadPaper("an island is of its head's size, has it, and hangs together")
    check_apart(table, high, wide)
    water = water_of(table, high, wide)
    if not hangs(water) or pools(water, high, wide) != ():
        raise BadPaper("the water doesn't hang together, or has a pool")
    return len(water)


def check_apart(table, high, wide):
    """Return a table of squares to the heads of their islands, none of which touch; BadPaper."""
    owner = {}
    for head in table:
        for spot in table[head]:
            if spot in owner or spot not in all_squares(high, wide):
                raise BadPaper("an island's square is taken twice, or isn't there")
            owner[spot] = head
    if any([owner.get(near, owner[spot]) != owner[spot] for spot in owner for near in beside(spot, high, wide)]):
        raise BadPaper("two islands touch by a side")
    return owner


def sure_water(hills, high, wide):
    """Return (squares of water in all ways, squares of land in all), in order; BadPaper for no way, BadSize."""
    waters = [water_of(table, high, wide) for table in rivers(hills, high, wide)]
    if waters == []:
        raise BadPaper("there is no way for the islands to lie")
    spots = all_squares(high, wide)
    wet = tuple([spot for spot in spots if all([spot in water for water in waters])])
    return (wet, tuple([spot for spot in spots if not any([spot in water for water in waters])]))
