"""Lights: squares that change with those beside them when pressed: all ways, fewest presses, and why there is none."""

from cluewright.errors import BadPaper, BadSize
from cluewright.squares import all_squares, beside


def changed(spot, high, wide):
    """Return the squares that change when one is pressed: it and those beside it."""
    return (spot,) + beside(spot, high, wide)


def pressed(lit, presses, high, wide):
    """Return the squares lit behind presses, in order; BadSize outside."""
    now = lot_of(lit)
    for press in presses:
        if press not in all_squares(high, wide):
            raise BadSize("a press is a square of the board")
        now = added(now, lot_of(changed(press, high, wide)))
    return tuple(sorted(now))


def lot_of(places):
    """Return a lot of places, as a table."""
    return {place: True for place in places}


def rows_for(high, wide):
    """Return, for each square in order, the places of the presses that change it, as a lot."""
    spots = all_squares(high, wide)
    # A press changes those squares whose presses change it.
    return [lot_of([place for place, spot in enumerate(spots) if spot in changed(one, high, wide)]) for one in spots]


def added(one, other):
    """Return the places that one of two lots has and the other hasn't."""
    return lot_of([place for place in one if place not in other] + [place for place in other if place not in one])


def one_way(lit, high, wide):
    """Return (presses that put out all, or None, quiet lots) by taking rows from each other, each in order."""
    spots = all_squares(high, wide)
    lights = len(spots)
    rows = rows_for(high, wide)
    # What is lit stands in a square's row as one place more.
    marked = [added(row, lot_of([lights])) if spot in lit else row for spot, row in zip(spots, rows)]
    heads, rest = taken_apart(marked, lights)
    free = [place for place in range(lights) if place not in heads]
    quiet = [[one] + [place for place in heads if one in heads[place]] for one in free]
    lots = tuple(sorted([tuple([spots[place] for place in sorted(lot)]) for lot in quiet]))
    if any([lights in row for row in rest]):
        return (None, lots)
    return (tuple([spots[place] for place in sorted(heads) if lights in heads[place]]), lots)


def taken_apart(rows, many):
    """Return (a table of places to the only row that has them, rows with none of these), of so many places."""
    heads = {}
    rest = list(rows)
    for place in range(many):
        at = first_with(rest, place)
        if at is not None:
            head = rest.pop(at)
            rest = [without(row, place, head) for row in rest]
            heads = {one: without(heads[one], place, head) for one in heads}
            heads[place] = head
    return (heads, rest)


def first_with(rows, place):
    """Return where the first row stands that has a place, None for none."""
    for at, row in enumerate(rows):
        if place in row:
            return at
    return None


def without(row, place, head):
    """Return a row freed of a place by a row that has it."""
    return added(row, head) if place in row else row


def quiet_lots(high, wide):
    """Return lots of presses that change nothing, from which all such are put together, in order."""
    return one_way((), high, wide)[1]


def all_presses(lit, high, wide):
    """Return all lots of presses that put out all, fewest first, then in order; none where none does."""
    presses, quiet = one_way(lit, high, wide)
    if presses is None:
        return ()
    found = [lot_of(presses)]
    for lot in quiet:
        found = found + [added(one, lot_of(lot)) for one in found]
    pairs = sorted([(len(lot), tuple(sorted(lot))) for lot in found])
    return tuple([lot for _, lot in pairs])


def fewest_presses(lit, high, wide):
    """Return the fewest presses that put out all, the first of such, None for none."""
    found = all_presses(lit, high, wide)
    return None if found == () else found[0]


def why_not(lit, high, wide):
    """Return a lot of squares of which each press changes an even number, but an odd number is lit, None for none."""
    for lot in quiet_lots(high, wide):
        if how_many_in(lit, lot) % 2 == 1:
            return lot
    return None


def how_many_in(lit, lot):
    """Return how many squares of a lot are lit."""
    return len([spot for spot in lot if spot in lit])


def check_why_not(lit, lot, high, wide):
    """Return True where a lot shows that lights can't be put out; BadPaper."""
    spots = all_squares(high, wide)
    if len(set(lot)) != len(lot) or any([spot not in spots for spot in lot]):
        raise BadPaper("a lot is of squares of the board, each once")
    if any([how_many_in(lot, changed(spot, high, wide)) % 2 == 1 for spot in spots]):
        raise BadPaper("a press changes an odd number of the lot")
    if how_many_in(lit, lot) % 2 == 0:
        raise BadPaper("an even number of the lot is lit")
    return True


def by_first_row(lit, high, wide, first):
    """Return (presses, lit behind): the first row's presses told, then those below each lit square, row by row."""
    presses = tuple(first)
    now = pressed(lit, presses, high, wide)
    for y in range(1, high):
        row = tuple([(y, x) for x in range(wide) if (y - 1, x) in now])
        now = pressed(now, row, high, wide)
        presses = presses + row
    return (presses, now)
