"""Squares: (row, column) places, neighbours, lots that hang together, rows told as texts, and a board turned."""

from cluewright.errors import BadSquare, BadText

FIGURES = "0123456789"
SIDES = ((-1, 0), (0, -1), (0, 1), (1, 0))
SIDES_AND_CORNERS = ((-1, -1), (-1, 0), (-1, 1), (0, -1), (0, 1), (1, -1), (1, 0), (1, 1))


def check_size(high, wide):
    """Return a board's (rows, columns), one to nine each; BadSquare."""
    if not 0 < high < 10 or not 0 < wide < 10:
        raise BadSquare("a board has one to nine rows and columns")
    return (high, wide)


def all_squares(high, wide):
    """Return all squares, row by row; BadSquare."""
    check_size(high, wide)
    return tuple([(y, x) for y in range(high) for x in range(wide)])


def row_of(y, wide):
    """Return a row's squares."""
    return tuple([(y, x) for x in range(wide)])


def column_of(x, high):
    """Return a column's squares."""
    return tuple([(y, x) for y in range(high)])


def stepped(spot, moves):
    """Return the places that lie behind moves from a square, on a board or not."""
    return [(spot[0] + down, spot[1] + right) for down, right in moves]


def on_board(spots, high, wide):
    """Return the squares among places that a board has."""
    return tuple([(y, x) for y, x in spots if 0 <= y < high and 0 <= x < wide])


def beside(spot, high, wide):
    """Return the squares that share a side with one, in order."""
    return on_board(stepped(spot, SIDES), high, wide)


def around(spot, high, wide):
    """Return the squares that share a side or a corner with one, in order."""
    return on_board(stepped(spot, SIDES_AND_CORNERS), high, wide)


def box_at(top, left, tall, broad):
    """Return the squares of the box whose first square is told."""
    return tuple([(top + y, left + x) for y in range(tall) for x in range(broad)])


def boxes(high, wide, tall, broad):
    """Return the squares of boxes of so many rows and columns, in order; BadSquare where they don't fill the board."""
    if tall < 1 or broad < 1 or high % tall != 0 or wide % broad != 0:
        raise BadSquare("the boxes don't fill the board")
    check_size(high, wide)
    return tuple([box_at(top, left, tall, broad) for top in range(0, high, tall) for left in range(0, wide, broad)])


def lots_of(rows):
    """Return a table of letters to their squares in rows of texts, letters in order; BadText for unlike rows."""
    lots = {}
    for y, row in enumerate(check_rows(rows)):
        for x, sign in enumerate(row):
            lots.setdefault(sign, []).append((y, x))
    return {sign: tuple(lots[sign]) for sign in sorted(lots)}


def check_rows(rows):
    """Return rows of texts, all alike in length; BadText."""
    if len(rows) == 0 or len(rows[0]) == 0 or any([len(row) != len(rows[0]) for row in rows]):
        raise BadText("rows have one sign or more, and all as many")
    return tuple(rows)


def reached(spot, lot):
    """Return the squares of a table that hang on one of them by sides, in order."""
    seen = {spot: True}
    waiting = [spot]
    while waiting != []:
        for place in stepped(waiting.pop(), SIDES):
            if place in lot and place not in seen:
                seen[place] = True
                waiting.append(place)
    return tuple(sorted(seen))


def hangs(spots):
    """Tell whether squares hang together by sides, none too."""
    return len(parts_of(spots)) < 2


def parts_of(spots):
    """Return the lots of squares that hang together by sides, in order."""
    lot = {spot: True for spot in spots}
    seen = {}
    parts = []
    for spot in sorted(lot):
        if spot not in seen:
            part = reached(spot, lot)
            for place in part:
                seen[place] = True
            parts.append(part)
    return tuple(parts)


def sign_at(table, spot, bare):
    """Return what stands for a square in a text."""
    if spot in table:
        return str(table[spot])
    return bare


def told(table, high, wide, bare="."):
    """Return rows of texts of a table of squares to numbers or letters, a sign for those not there."""
    return tuple(["".join([sign_at(table, (y, x), bare) for x in range(wide)]) for y in range(high)])


def read(rows, bare="."):
    """Return a table of squares to the numbers of rows' figures, bare signs left out; BadText."""
    table = {}
    for y, row in enumerate(check_rows(rows)):
        for x, sign in enumerate(row):
            # Asked first: a bare sign is left out even where it is a figure.
            if sign != bare:
                if sign not in FIGURES:
                    raise BadText("a sign is a figure or the bare sign")
                table[(y, x)] = int(sign)
    return table


def turned(table, high, wide):
    """Return a table turned by a quarter to the right, for a board of so many rows and columns ahead of it."""
    return {(x, high - 1 - y): table[(y, x)] for y, x in table}


def mirrored(table, wide):
    """Return a table with left and right exchanged."""
    return {(y, wide - 1 - x): table[(y, x)] for y, x in table}
