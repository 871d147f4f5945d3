"""Twins: noughts and ones, as many of each in a row and column, no three alike on end, no two rows or columns alike."""

from cluewright.errors import BadPaper, BadSize
from cluewright.search import is_enough
from cluewright.squares import column_of, row_of


def check_even(size):
    """Return a size, even, two to eight; BadSize."""
    if size not in (2, 4, 6, 8):
        raise BadSize("a size is two, four, six or eight")
    return size


def is_line(row):
    """Tell whether a whole row has as many noughts as ones and no three alike on end."""
    noughts = len([1 for value in row if value == 0])
    ones = len([1 for value in row if value == 1])
    return noughts == ones and noughts + ones == len(row) and not has_three(row)


def has_three(row):
    """Tell whether three alike stand on end in a row."""
    return any([one == two and two == three for one, two, three in zip(row, row[1:], row[2:])])


def all_even_lines(size):
    """Return all such rows of a size, in order; BadSize."""
    check_even(size)
    return lines_from((), size)


def lines_from(row, size):
    """Return all even lines of a size that begin with a row, in order."""
    begun = [tuple(row)] if len(row) <= size else []
    for _ in range(size - len(row)):
        begun = [(*line, value) for line in begun for value in (0, 1) if not has_three((*line[-2:], value))]
    return tuple([line for line in begun if is_line(line)])


def may_begin(row, size):
    """Tell whether a row begun may still become such a row."""
    return lines_from(row, size) != ()


def twins(size, known, most=None):
    """Return all boards, as rows, that have a table's known squares, in order, so many where told; BadSize."""
    lines = all_even_lines(size)
    if any([not 0 <= y < size or not 0 <= x < size or known[(y, x)] not in (0, 1) for y, x in known]):
        raise BadSize("a known square stands on the board, and is nought or one")
    found = []
    grow(size, known, lines, (), most, found)
    return tuple(found)


def grow(size, known, lines, rows, most, found):
    """Add the boards that begin with rows to what is found."""
    begun = tuple([tuple(row) for row in rows])
    table = {spot: known[spot] for spot in known}
    for y, row in enumerate(begun):
        for x, value in enumerate(row):
            # A row that doesn't have what is known there is no board's.
            if table.setdefault((y, x), value) != value:
                return
    downs = [[line for line in lines if has_known(table, line, row_of(place, size))] for place in range(size)]
    rights = [[line for line in lines if has_known(table, line, column_of(place, size))] for place in range(size)]
    if all([y < size and row in downs[y] for y, row in enumerate(begun)]) and len(set(begun)) == len(begun):
        rest = [[line for line in row if line not in begun] for row in downs[len(begun):]]
        grow_left(rest, rights, begun, most, found)


def has_known(table, line, spots):
    """Tell whether a line has what a table tells of its squares."""
    return all([table.get(spot, value) == value for spot, value in zip(spots, line)])


def grow_left(downs, rights, rows, most, found):
    """Add the boards that begin with rows to what is found, by the lines that rows left and columns may be."""
    if is_enough(found, most) or any([lines == [] for lines in downs + rights]):
        return
    if downs == []:
        # Each column has one line left now.
        if len(set([lines[0] for lines in rights])) == len(rights):
            found.append(rows)
        return
    y = len(rows)
    for row in downs[0]:
        columns = [[line for line in lines if line[y] == value] for lines, value in zip(rights, row)]
        left = [[line for line in lines if line != row and may_cross(line, columns, y + 1 + place)]
                for place, lines in enumerate(downs[1:])]
        grow_left(left, columns, (*rows, row), most, found)


def may_cross(row, columns, y):
    """Tell whether each column may still be a line that has a row's number there."""
    return all([any([line[y] == value for line in lines]) for lines, value in zip(columns, row)])


def check_twins(rows, known):
    """Return True where rows are such a board with all known squares; BadPaper, BadSize."""
    size = check_even(len(rows))
    if any([len(row) != size for row in rows]):
        raise BadPaper("the rows aren't as long as there are rows")
    lines = [tuple(row) for row in rows]
    columns = [tuple([line[x] for line in lines]) for x in range(size)]
    if not all([is_line(line) for line in lines + columns]):
        raise BadPaper("a row or column has not as many noughts as ones, or three alike on end")
    if len(set(lines)) != size or len(set(columns)) != size:
        raise BadPaper("two rows or columns are alike")
    table = {(y, x): value for y, line in enumerate(lines) for x, value in enumerate(line)}
    if any([table.get(spot) != known[spot] for spot in known]):
        raise BadPaper("a known square has another number")
    return True


def line_steps(row):
    """Return a (place, number) pair for each place, None in a row, that follows: two alike near, or a half full."""
    pairs = [(place, number) for place, old in enumerate(row) if old is None for number in (0, 1)
             if must(row, place, number) or is_half(row, 1 - number)]
    firsts = [pair for at, pair in enumerate(pairs) if at == 0 or pairs[at - 1][0] != pair[0]]
    return tuple(firsts)


def is_half(row, number):
    """Tell whether half of a line is a number already."""
    return 2 * len([1 for value in row if value == number]) >= len(row)


def must(row, place, number):
    """Tell whether two of the other number beside a place, on one side or about it, leave it a number."""
    near = [row[at] if 0 <= at < len(row) else None for at in range(place - 2, place + 3)]
    pairs = ((near[0], near[1]), (near[1], near[3]), (near[3], near[4]))
    return (1 - number, 1 - number) in pairs


def fewest_known(rows):
    """Return known squares, none too many: each left out in order where the board stays alone; BadPaper, BadSize."""
    check_twins(rows, {})
    known = {(y, x): value for y, row in enumerate(rows) for x, value in enumerate(row)}
    for spot in list(known):
        rest = {one: known[one] for one in known if one != spot}
        if len(twins(len(rows), rest, 2)) == 1:
            known = rest
    return known
