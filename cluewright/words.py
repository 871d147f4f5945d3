"""Words: slots across and down a board filled with words, crossing ones agreeing, all ways told."""

from cluewright.errors import BadPaper, BadSize
from cluewright.search import is_enough
from cluewright.squares import SIDES_AND_CORNERS, check_rows, column_of, row_of

WALL = "#"
BARE = "."


def slots_of(rows):
    """Return the slots, two squares or more, ("across" or "down", squares): across ones first, in order; BadText."""
    board = check_rows(rows)
    high = len(board)
    wide = len(board[0])
    across = [run for y in range(high) for run in runs_in(row_of(y, wide), board)]
    down = [run for x in range(wide) for run in runs_in(column_of(x, high), board)]
    return tuple([("across", run) for run in across] + [("down", run) for run in down])


def runs_in(spots, rows):
    """Return the runs of two squares or more that aren't walls in a line of squares."""
    runs = [[]]
    for y, x in spots:
        if rows[y][x] == WALL:
            runs.append([])
        else:
            runs[-1].append((y, x))
    return [tuple(run) for run in runs if len(run) > 1]


def check_list(words):
    """Return words, each once, in order; BadSize for a bare one."""
    found = sorted(set(words))
    if "" in found:
        raise BadSize("a word has a sign or more")
    return found


def fillings(rows, words, most=None, twice=False):
    """Return all ways to fill slots, words in the slots' order, none twice unless told, so many; BadText, BadSize."""
    slots = slots_of(rows)
    found = []
    fill_on(slots, check_list(words), signs_of(rows), (), most, twice, found)
    return tuple(found)


def signs_of(rows):
    """Return a table of squares to the signs that are given there."""
    table = {}
    for y, row in enumerate(rows):
        for x, sign in enumerate(row):
            if sign not in (WALL, BARE):
                table[(y, x)] = sign
    return table


def fill_on(slots, words, known, row, most, twice, found):
    """Add the ways that begin with a row to what is found."""
    signs = {spot: known[spot] for spot in known}
    for word, slot in zip(row, slots):
        if not fits(word, slot[1], signs):
            return
        signs = signs_with(signs, word, slot[1])
    if len(row) <= len(slots) and (twice or len(set(row)) == len(row)):
        left = [(slot[1], fitting(words, slot[1], signs, [] if twice else row)) for slot in slots[len(row):]]
        fill_left(left, signs, tuple(row), most, twice, found)


def fits(word, spots, signs):
    """Tell whether a word is as long as a slot and has the signs that are known there."""
    return len(word) == len(spots) and all([signs.get(spot, sign) == sign for spot, sign in zip(spots, word)])


def fitting(words, spots, signs, taken):
    """Return the words, of some, that may stand in a slot and aren't taken."""
    return [word for word in words if word not in taken and fits(word, spots, signs)]


def signs_with(signs, word, spots):
    """Return the signs known behind a word in a slot."""
    table = {spot: signs[spot] for spot in signs}
    for spot, sign in zip(spots, word):
        table[spot] = sign
    return table


def fill_left(left, signs, row, most, twice, found):
    """Add the ways that begin with a row, and go on by the words that slots left may have, to what is found."""
    if is_enough(found, most):
        return
    if left == []:
        found.append(row)
        return
    if any([words == [] for spots, words in left]):
        return
    spots, words = left[0]
    for word in words:
        known = signs_with(signs, word, spots)
        taken = [] if twice else [word]
        rest = [(lot, fitting(more, lot, known, taken)) for lot, more in left[1:]]
        fill_left(rest, known, (*row, word), most, twice, found)


def filled_rows(rows, row):
    """Return a board's rows with words in its slots; BadPaper for words that don't fit."""
    slots = slots_of(rows)
    if len(row) != len(slots) or any([len(word) != len(slot[1]) for word, slot in zip(row, slots)]):
        raise BadPaper("the words aren't as many, or not as long, as the slots")
    table = {}
    for word, slot in zip(row, slots):
        for (y, x), sign in zip(slot[1], word):
            if table.get((y, x), sign) != sign or rows[y][x] not in (BARE, sign):
                raise BadPaper("two words, or a word and a given sign, don't agree")
            table[(y, x)] = sign
    return tuple(["".join([table.get((down, right), old) for right, old in enumerate(line)])
                  for down, line in enumerate(rows)])


def crossings(rows):
    """Return the (slot, place in it, slot, place in it) of squares of two slots, in order; BadText."""
    # A slot is told by its place among all slots, as its word is in a way to fill them.
    slots = slots_of(rows)
    across = [(slot, spots) for slot, (way, spots) in enumerate(slots) if way == "across"]
    places = {}
    for slot, (way, spots) in enumerate(slots):
        if way == "down":
            for place, spot in enumerate(spots):
                places[spot] = (slot, place)
    return tuple([(slot, place, *places[spot]) for slot, spots in across for place, spot in enumerate(spots)
                  if spot in places])


def numbers_of(rows):
    """Return a table of the slots' first squares to numbers from one on, in order of squares; BadText."""
    firsts = sorted({spots[0] for way, spots in slots_of(rows)})
    return {spot: number for number, spot in enumerate(firsts, 1)}


def hidden_at(rows, word):
    """Return the (square, step) at which a word stands in rows, eight ways, in order; BadText, BadSize."""
    board = check_rows(rows)
    check_list([word])
    spots = [(y, x) for y in range(len(board)) for x in range(len(board[0]))]
    return tuple([(spot, step) for spot in spots for step in SIDES_AND_CORNERS if stands(board, word, spot, step)])


def stands(rows, word, spot, step):
    """Tell whether a word stands from a square on by a step."""
    for place, sign in enumerate(word):
        y = spot[0] + step[0] * place
        x = spot[1] + step[1] * place
        if not 0 <= y < len(rows) or not 0 <= x < len(rows[0]) or rows[y][x] != sign:
            return False
    return True


def ladder(start, end, words):
    """Return a shortest row of words, a sign changed each time, earlier words first, or None; BadSize."""
    steps = check_list([*words, end])
    seen = {start: True}
    level = [(start,)]
    while level != []:
        longer = []
        for row in level:
            if row[-1] == end:
                return row
            for word in steps:
                if word not in seen and len(word) == len(start) and unlike(row[-1], word) == 1:
                    seen[word] = True
                    longer.append((*row, word))
        level = longer
    return None


def unlike(one, other):
    """Return at how many places two words of one length differ."""
    return len([1 for sign, there in zip(one, other) if sign != there])
