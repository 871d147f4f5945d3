"""Bones: pairs of numbers, each once, laid on a board of numbers, all ways told."""

from cluewright.errors import BadPaper, BadSize
from cluewright.search import is_enough
from cluewright.squares import all_squares, box_at


def all_bones(most):
    """Return all pairs (low, high) of numbers from nought up to one, in order; BadSize."""
    if not 0 <= most < 7:
        raise BadSize("the greatest number is nought to six")
    return tuple([(low, high) for low in range(most + 1) for high in range(low, most + 1)])


def check_field(rows, most):
    """Return rows of numbers that have room for all pairs; BadSize."""
    bones = all_bones(most)
    found = tuple([tuple(row) for row in rows])
    if found == () or any([len(row) != len(found[0]) for row in found]):
        raise BadSize("there is a row or more, and all are as long")
    if sum([len(row) for row in found]) != 2 * len(bones):
        raise BadSize("the rows haven't just room for all pairs")
    if any([not 0 <= one <= most for row in found for one in row]):
        raise BadSize("a number is nought up to the greatest")
    return found


def bone_at(rows, one, other):
    """Return the pair of two squares' numbers, the lower ahead."""
    numbers = [rows[y][x] for y, x in (one, other)]
    return (min(numbers), max(numbers))


def layings(rows, most, first=None):
    """Return all tables of pairs to their two squares, pairs in order, the first so many where told; BadSize."""
    field = check_field(rows, most)
    found = []
    lay_on(field, box_at(0, 0, len(field), len(field[0])), {}, {}, first, found)
    return tuple(found)


def lay_on(rows, spots, taken, table, first, found):
    """Add the tables that begin with one to what is found: the first free square to the right, then down."""
    free = [spot for spot in spots if spot not in taken]
    places = [(bone, lot) for bone, lot in places_among(rows, free) if bone not in table]
    lay_left(free, places, table, first, found)


def places_among(rows, spots):
    """Return the (pair, (square, square)) places of two squares beside each other, among some, in order: to the right,
    then down."""
    lot = {spot: True for spot in spots}
    pairs = [((y, x), near) for y, x in spots for near in ((y, x + 1), (y + 1, x)) if near in lot]
    return [(bone_at(rows, one, other), (one, other)) for one, other in pairs]


def lay_left(free, places, table, first, found):
    """Add the tables that begin with one, and go on by some places on free squares, to what is found."""
    if is_enough(found, first):
        return
    if free == []:
        found.append({bone: table[bone] for bone in sorted(table)})
        return
    for bone, lot in next_places(free, places):
        begun = {one: table[one] for one in table}
        begun[bone] = lot
        rest = [(one, spots) for one, spots in places if one != bone and lot[0] not in spots and lot[1] not in spots]
        lay_left([spot for spot in free if spot not in lot], rest, begun, first, found)


def next_places(free, places):
    """Return the places to be tried next: none where not all can be laid, one that must be, or the first square's."""
    by_bone = {}
    by_spot = {spot: [] for spot in free}
    for bone, lot in places:
        by_bone.setdefault(bone, []).append((bone, lot))
        for spot in lot:
            by_spot[spot].append((bone, lot))
    if 2 * len(by_bone) < len(free) or any([lots == [] for lots in by_spot.values()]):
        return []
    choices = list(by_spot.values())
    if 2 * len(by_bone) == len(free):
        # No pair is too many: each must be laid.
        choices.extend(list(by_bone.values()))
    # A place that must be taken may come ahead of its turn: the tables stay in order.
    alone = [lots for lots in choices if len(lots) == 1]
    return (alone + [by_spot[free[0]]])[0]


def check_laying(rows, most, table):
    """Return how many pairs are laid, each once, beside each other, the board full; BadPaper, BadSize."""
    field = check_field(rows, most)
    if sorted(table) != list(all_bones(most)):
        raise BadPaper("the table hasn't just all pairs")
    spots = sorted([spot for lot in table.values() for spot in lot])
    if spots != list(all_squares(len(field), len(field[0]))):
        raise BadPaper("the pairs don't take each square once")
    for bone in table:
        if not lies_well(field, bone, table[bone]):
            raise BadPaper("a pair's squares aren't beside each other, or have other numbers")
    return len(table)


def lies_well(rows, bone, lot):
    """Tell whether a lot is two squares beside each other that have a pair's numbers."""
    if len(lot) != 2:
        return False
    one, other = lot
    return abs(one[0] - other[0]) + abs(one[1] - other[1]) == 1 and bone_at(rows, one, other) == bone


def places_of(rows, most):
    """Return a table of pairs to the (square, square) places where they may lie, in order; BadSize."""
    field = check_field(rows, most)
    places = {bone: [] for bone in all_bones(most)}
    for bone, lot in places_among(field, box_at(0, 0, len(field), len(field[0]))):
        places[bone].append(lot)
    return {bone: tuple(places[bone]) for bone in places}


def forced(rows, most):
    """Return the pairs with one place alone, in order; BadSize."""
    places = places_of(rows, most)
    return tuple([bone for bone in places if len(places[bone]) == 1])


def chains(bones, count):
    """Return all rows of so many pairs, each once, that join at like numbers, as rows of numbers, in order; BadSize."""
    if count < 1:
        raise BadSize("a row has one pair or more")
    left = sorted(set(bones))
    numbers = sorted({number for bone in left for number in bone})
    found = []
    for number in numbers:
        chain_on((number,), left, count, found)
    return tuple(found)


def chain_on(row, left, count, found):
    """Add the rows that begin with one and go on by so many of some pairs to what is found, in order."""
    if count == 0:
        found.append(row)
        return
    nexts = [(far_end(bone, row[-1]), bone) for bone in left if row[-1] in bone]
    for number, bone in sorted(nexts):
        chain_on((*row, number), [one for one in left if one != bone], count - 1, found)


def far_end(bone, number):
    """Return the number at the other end of a pair."""
    low, high = bone
    return low + high - number
