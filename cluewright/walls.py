"""Walls: a board parted in lots that hang together, each with one told square and as great as it tells."""

from cluewright.errors import BadPaper, BadSize
from cluewright.search import is_enough
from cluewright.squares import all_squares, beside, box_at, hangs, parts_of, reached, told

LETTERS = "abcdefghijklmnopqrstuvwxyz"


def check_heads(heads, high, wide):
    """Return a table of squares to sizes, one or more each, the board in all; BadSize."""
    spots = all_squares(high, wide)
    if any([spot not in spots or heads[spot] < 1 for spot in heads]) or sum(list(heads.values())) != len(spots):
        raise BadSize("heads stand on the board, and their sizes come to just its squares")
    return {spot: heads[spot] for spot in sorted(heads)}


def lots_from(start, size, free, high, wide):
    """Return all lots of a size that hang together, have a square, and else free squares alone, in order."""
    open_spots = {spot: True for spot in free}
    open_spots[start] = True
    # A square too few about the start, and no lot is great enough.
    if size < 1 or len(reached(start, open_spots)) < size:
        return ()
    found = []
    grow([start], [], {start: True}, size, (open_spots, high, wide), found)
    return tuple(sorted(found))


def grow(row, border, seen, size, ground, found):
    """Add the lots that have a row, and else squares of its border or yet unseen, to what is found, each once."""
    free, high, wide = ground
    if len(row) == size:
        found.append(tuple(sorted(row)))
        return
    fresh = [spot for spot in beside(row[-1], high, wide) if spot in free and spot not in seen]
    known = {spot: True for spot in [*seen, *fresh]}
    left = border + fresh
    while left != []:
        # What was tried is never taken later: so no lot is found twice.
        spot = left.pop()
        grow(row + [spot], list(left), known, size, ground, found)


def boxes_from(start, size, free):
    """Return all full boxes of a size that have a square, and else free squares alone, in order."""
    y, x = start
    found = []
    for tall in range(1, size + 1):
        if size % tall == 0:
            broad = size // tall
            corners = [(top, left) for top in range(y - tall + 1, y + 1) for left in range(x - broad + 1, x + 1)]
            found.extend([box_at(top, left, tall, broad) for top, left in corners])
    return tuple(sorted([lot for lot in found if all([spot in free or spot == start for spot in lot])]))


def partings(heads, high, wide, box=False, most=None):
    """Return all partings, tables of heads to lots, in order, of boxes where told, so many where told; BadSize."""
    known = check_heads(heads, high, wide)
    free = {spot: True for spot in all_squares(high, wide) if spot not in known}
    found = []
    part_on(known, list(known), {}, free, high, wide, box, most, found)
    return tuple(found)


def part_on(known, left, table, free, high, wide, box, most, found):
    """Add the partings that begin with a table to what is found, heads left in order."""
    # A head is in a lot of its own, free or not.
    bare = {spot: True for spot in free if spot not in known}
    if is_enough(found, most) or not may_part(known, left, bare):
        return
    if len(left) == 0:
        found.append({head: table[head] for head in sorted(table)})
        return
    head = left[0]
    lots = boxes_from(head, known[head], bare) if box else lots_from(head, known[head], bare, high, wide)
    for lot in lots:
        begun = {one: table[one] for one in table}
        begun[head] = lot
        rest = {spot: True for spot in bare if spot not in lot}
        part_on(known, left[1:], begun, rest, high, wide, box, most, found)


def may_part(known, left, free):
    """Tell whether each part of the board that hangs together has as many squares as its heads left tell."""
    return all([len(part) == sum([known[spot] for spot in left if spot in part])
                for part in parts_of(list(free) + list(left))])


def check_parting(heads, table, high, wide, box=False):
    """Return how many lots a parting has, of its heads' sizes, hanging together, boxes where told; BadPaper."""
    known = check_heads(heads, high, wide)
    if sorted(table) != sorted(known):
        raise BadPaper("the parting hasn't just the heads")
    if sorted([spot for lot in table.values() for spot in lot]) != list(all_squares(high, wide)):
        raise BadPaper("the lots haven't each square once")
    for head in table:
        lot = table[head]
        if head not in lot or len(lot) != known[head] or not hangs(lot):
            raise BadPaper("a lot is of its head's size, has it, and hangs together")
        if box and not is_box(lot):
            raise BadPaper("a lot is no box")
    return len(table)


def is_box(spots):
    """Tell whether squares are a full box."""
    if len(spots) == 0:
        return False
    tops = [y for y, _ in spots]
    lefts = [x for _, x in spots]
    tall = max(tops) - min(tops) + 1
    broad = max(lefts) - min(lefts) + 1
    return sorted(spots) == list(box_at(min(tops), min(lefts), tall, broad))


def letters_of(table, high, wide):
    """Return rows of texts: lots by letters from a on, in order of their heads; BadSize past twenty-six."""
    if len(table) > 26:
        raise BadSize("there are letters for twenty-six lots")
    signs = {}
    for letter, head in zip(LETTERS, sorted(table)):
        for spot in table[head]:
            signs[spot] = letter
    return told(signs, high, wide)


def edges_between(table):
    """Return how many sides part squares of unlike lots."""
    owner = owners_of(table)
    pairs = [(spot, other) for spot in owner for other in ((spot[0], spot[1] + 1), (spot[0] + 1, spot[1]))]
    return len([1 for spot, other in pairs if other in owner and owner[other] != owner[spot]])


def owners_of(table):
    """Return a table of squares to the heads whose lots they are of."""
    return {spot: head for head in table for spot in table[head]}


def sums_kept(table, numbers):
    """Return a table of heads to the sums of their lots' numbers, nought where a square has none."""
    return {head: sum([numbers.get(spot, 0) for spot in table[head]]) for head in sorted(table)}
