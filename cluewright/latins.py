"""Latins: squares of numbers, each once in rows and columns, made, turned, renamed, and how alike they are."""

from itertools import permutations
from math import gcd

from cluewright.errors import BadSize, BadSquare


def check_latin(rows):
    """Return rows of numbers from one on, each once in each row and column; BadSquare."""
    found = tuple([tuple(row) for row in rows])
    due = list(range(1, len(found) + 1))
    if found == () or any([sorted(row) != due for row in found]):
        raise BadSquare("a row hasn't each number once")
    if any([sorted([row[x] for row in found]) != due for x in range(len(found))]):
        raise BadSquare("a column hasn't each number once")
    return found


def cyclic(size, step=1):
    """Return the latin whose rows go on by a step, the first from one on; BadSize where it isn't one."""
    if size < 1:
        raise BadSize("a latin has one row or more")
    if gcd(step, size) != 1:
        raise BadSize("a step that shares a number with the size makes no latin")
    return tuple([tuple([(x + y * step) % size + 1 for x in range(size)]) for y in range(size)])


def all_latins(size):
    """Return all latins of a size, in order; BadSize past four."""
    if not 0 < size < 5:
        raise BadSize("all latins are told of a size from one to four")
    begun = [()]
    for _ in range(size):
        begun = [(*rows, row) for rows in begun for row in orders_of(size) if all([apart(row, one) for one in rows])]
    return tuple(begun)


def orders_of(size):
    """Return all orders of numbers from one to a size, tuples, in order."""
    return list(permutations(range(1, size + 1)))


def apart(one, other):
    """Tell whether two rows differ at each place."""
    return all([here != there for here, there in zip(one, other)])


def renamed(rows, names):
    """Return a latin with its numbers exchanged by an order of them; BadSquare."""
    old = check_latin(rows)
    if sorted(names) != list(range(1, len(old) + 1)):
        raise BadSquare("the names aren't an order of the latin's numbers")
    return tuple([tuple([names[number - 1] for number in row]) for row in old])


def moved(rows, downs, rights):
    """Return a latin with its rows and columns taken in orders of places; BadSquare."""
    old = check_latin(rows)
    if sorted(downs) != list(range(len(old))) or sorted(rights) != list(range(len(old))):
        raise BadSquare("the places aren't an order of the latin's rows and columns")
    return tuple([tuple([old[y][x] for x in rights]) for y in downs])


def flipped(rows):
    """Return a latin with rows and columns exchanged; BadSquare."""
    old = check_latin(rows)
    return tuple([tuple(column) for column in zip(*old)])


def plain(rows):
    """Return a latin renamed and its rows put in order so that the first row and column rise; BadSquare."""
    old = check_latin(rows)
    names = [old[0].index(number) + 1 for number in range(1, len(old) + 1)]
    return tuple(sorted(renamed(old, names)))


def are_square(one, other):
    """Tell whether two latins laid on each other have each pair of numbers once; BadSquare."""
    first = check_latin(one)
    second = check_latin(other)
    if len(first) != len(second):
        raise BadSquare("the latins are of unlike sizes")
    pairs = [pair for here, there in zip(first, second) for pair in zip(here, there)]
    return len(set(pairs)) == len(pairs)


def choices(rows):
    """Return all rows of columns, one for each row, that take each column and each number once, in order; BadSquare."""
    found = []
    choose_on(check_latin(rows), (), {}, found)
    return tuple(found)


def choose_on(rows, columns, numbers, found):
    """Add the choices that begin with some columns, which take some numbers, to a row."""
    if len(columns) == len(rows):
        found.append(columns)
        return
    for x, number in enumerate(rows[len(columns)]):
        if x not in columns and number not in numbers:
            choose_on(rows, (*columns, x), {**numbers, number: True}, found)


def mate(rows):
    """Return a latin that with one has each pair once, the first found of its choices, None for none; BadSquare."""
    old = check_latin(rows)
    found = cover(choices(old), (), len(old))
    if found is None:
        return None
    numbers = {(y, x): number for number, row in enumerate(found, start=1) for y, x in enumerate(row)}
    return tuple([tuple([numbers[(y, x)] for x in range(len(old))]) for y in range(len(old))])


def cover(lots, taken, size):
    """Return as many choices as a size that share no square, the first such, None for none."""
    left = [lot for lot in lots if all([apart(lot, one) for one in taken])]
    return cover_on(left, list(taken), size)


def cover_on(left, taken, size):
    """Return choices that begin with those taken and go on in order by those left, None for none."""
    if len(taken) == size:
        return taken
    if len(taken) > size or not enough_left(left, size - len(taken)):
        return None
    for at, lot in enumerate(left):
        found = cover_on([one for one in left[at + 1:] if apart(one, lot)], taken + [lot], size)
        if found is not None:
            return found
    return None


def enough_left(left, need):
    """Tell whether choices have, in each row, as many columns as are needed."""
    # Choices that share no square have a column each of every row: with fewer columns there are too few.
    return len(left) > 0 and all([len(set(columns)) >= need for columns in zip(*left)])


def swaps(rows):
    """Return the (corner, corner) squares whose two numbers may be exchanged, by both rows, then columns; BadSquare."""
    old = check_latin(rows)
    pairs = [(low, high) for low in range(len(old)) for high in range(low + 1, len(old))]
    return tuple([((top, left), (bottom, right)) for top, bottom in pairs for left, right in pairs
                  if old[top][left] == old[bottom][right] and old[top][right] == old[bottom][left]])
