"""Shades: numbers shaded so that none stands twice in a line, no shaded ones touch, and the rest hangs together."""

from cluewright.errors import BadPaper, BadSize
from cluewright.rivers import hang_within
from cluewright.search import is_enough
from cluewright.squares import beside, box_at, hangs, told


def check_numbers(rows):
    """Return rows of numbers, all alike in length, at most six each way; BadSize."""
    found = tuple([tuple(row) for row in rows])
    if found == () or found[0] == () or any([len(row) != len(found[0]) for row in found]):
        raise BadSize("rows have one number or more, and all as many")
    if len(found) > 6 or len(found[0]) > 6:
        raise BadSize("there are at most six rows and columns")
    return found


def twice(rows, spot, shaded):
    """Tell whether a square's number stands in its row or column, unshaded, once more."""
    y, x = spot
    line = [(y, place) for place in range(len(rows[0])) if place != x]
    line.extend([(place, x) for place in range(len(rows)) if place != y])
    return any([rows[down][right] == rows[y][x] and (down, right) not in shaded for down, right in line])


def clashes(rows):
    """Return the (square, square) pairs of like numbers in a row or column, in order; BadSize."""
    old = check_numbers(rows)
    spots = box_at(0, 0, len(old), len(old[0]))
    return tuple([(one, other) for one in spots for other in spots if one < other and is_clash(old, one, other)])


def is_clash(rows, one, other):
    """Tell whether two squares of a row or column have like numbers."""
    in_line = one[0] == other[0] or one[1] == other[1]
    return in_line and rows[one[0]][one[1]] == rows[other[0]][other[1]]


def shadings(rows, most=None):
    """Return all lots of shaded squares, those with first squares shaded ahead, so many where told; BadSize."""
    old = check_numbers(rows)
    found = []
    shade_on(old, box_at(0, 0, len(old), len(old[0])), (), 0, most, found)
    return tuple(found)


def shade_on(rows, spots, row, place, most, found):
    """Add the lots that begin with a row to what is found, squares from a place on left, shaded ahead of not."""
    shade_within((rows, spots, {}, len(spots)), tuple(row), place, most, found)


def shade_within(ground, lot, place, most, found):
    """Add the lots that have some squares, squares from a place on left, to what is found: no square of a table, and
    no more than a told number."""
    rows, spots, barred, limit = ground
    if is_enough(found, most) or len(lot) > limit or not may_shade(ground, lot, place):
        return
    if place == len(spots):
        found.append(tuple(sorted(lot)))
        return
    spot = spots[place]
    if spot not in lot and spot not in barred:
        shade_within(ground, (*lot, spot), place + 1, most, found)
    shade_within(ground, lot, place + 1, most, found)


def may_shade(ground, lot, place):
    """Tell whether shaded squares, and others from a place on, may come to a lot that keeps all."""
    rows, spots, barred, limit = ground
    shaded = {spot: True for spot in lot}
    near = {one: True for spot in lot for one in beside(spot, len(rows), len(rows[0]))}
    if any([spot in near for spot in lot]):
        return False
    left = [spot for spot in spots if spot not in shaded]
    # Surely not shaded: squares that were passed over, barred ones, and those beside a shaded one.
    passed = {spot: True for spot in spots[:place]}
    bare = [spot for spot in left if spot in passed or spot in barred or spot in near]
    if most_alike(rows, bare) > 0 or len(lot) + most_alike(rows, left) > limit:
        return False
    return hang_within(bare, {spot: True for spot in left})


def most_alike(rows, spots):
    """Return how many squares more than one have a number in a row, or in a column, whichever is more in all."""
    in_rows = len(set([(y, rows[y][x]) for y, x in spots]))
    in_columns = len(set([(x, rows[y][x]) for y, x in spots]))
    return len(spots) - min(in_rows, in_columns)


def check_shading(rows, lot):
    """Return how many squares are shaded where all is kept; BadPaper, BadSize."""
    old = check_numbers(rows)
    spots = box_at(0, 0, len(old), len(old[0]))
    if len(set(lot)) != len(lot) or any([spot not in spots for spot in lot]):
        raise BadPaper("the lot hasn't squares of the board, each once")
    if any([near in lot for spot in lot for near in beside(spot, len(old), len(old[0]))]):
        raise BadPaper("two shaded squares touch")
    left = [spot for spot in spots if spot not in lot]
    if not hangs(left):
        raise BadPaper("what is left doesn't hang together")
    if any([twice(old, spot, lot) for spot in left]):
        raise BadPaper("a number stands twice in a line")
    return len(lot)


def sure_shades(rows):
    """Return (squares shaded in all ways, squares shaded in none), in order; BadPaper for no way, BadSize."""
    old = check_numbers(rows)
    spots = box_at(0, 0, len(old), len(old[0]))
    ways = first_shading(old)
    for spot in spots:
        # One more way is asked for only where those found don't tell that the square may be so.
        if all([spot in way for way in ways]):
            ways = ways + shadings_with(old, (), {spot: True}, 1)
        elif all([spot not in way for way in ways]):
            ways = ways + shadings_with(old, (spot,), {}, 1)
    shaded = tuple([spot for spot in spots if all([spot in way for way in ways])])
    return (shaded, tuple([spot for spot in spots if not any([spot in way for way in ways])]))


def first_shading(rows):
    """Return the first lot of shaded squares, as a row of one; BadPaper for no way."""
    ways = shadings(rows, 1)
    if ways == ():
        raise BadPaper("there is no way to shade")
    return ways


def shadings_with(rows, lot, barred, most):
    """Return so many lots that have some squares, and none of a table."""
    spots = box_at(0, 0, len(rows), len(rows[0]))
    found = []
    shade_within((rows, spots, barred, len(spots)), lot, 0, most, found)
    return tuple(found)


def fewest_shades(rows):
    """Return the first of the ways that shade the fewest squares; BadPaper for no way, BadSize."""
    old = check_numbers(rows)
    spots = box_at(0, 0, len(old), len(old[0]))
    first_shading(old)
    found = []
    limit = 0
    # So many squares at most, one more each time: the first found shades the fewest.
    while found == []:
        shade_within((old, spots, {}, limit), (), 0, 1, found)
        limit += 1
    return found[0]


def shown_shades(rows, lot):
    """Return rows of texts: a number below ten for each square, a star for a shaded one; BadSize."""
    old = check_numbers(rows)
    if any([not 0 <= value < 10 for row in old for value in row]):
        raise BadSize("a number is nought to nine")
    signs = {(y, x): value for y, row in enumerate(old) for x, value in enumerate(row)}
    for spot in lot:
        signs[spot] = "*"
    return told(signs, len(old), len(old[0]))
