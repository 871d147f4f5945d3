"""Stars: so many in each row, column and lot, none touching, and partners beside told squares."""

from itertools import combinations

from cluewright.errors import BadPaper, BadSize
from cluewright.search import is_enough
from cluewright.squares import all_squares, around, beside, check_rows, check_size, lots_of


def check_many(rows, many):
    """Return a table of letters to squares where lots are as many as rows and columns; BadText first, BadSize."""
    board = check_rows(rows)
    lots = lots_of(board)
    if many < 1 or len(board) != len(board[0]) or len(lots) != len(board):
        raise BadSize("there is one star or more, and as many rows as columns and lots")
    return lots


def stars(rows, many, most=None):
    """Return all lots, so many squares in each row, column and letter's lot, none around another; BadSize, BadText."""
    letters = tuple(check_many(rows, many))
    found = []
    put_on(rows, letters, many, (), 0, most, found)
    return tuple(found)


def put_on(rows, letters, many, row, y, most, found):
    """Add the lots that begin with a row to what is found, rows from one on left, the letters in a row."""
    if is_enough(found, most):
        return
    here = tuple(row)
    if y >= len(rows):
        if keeps_counts(rows, letters, many, here):
            found.append(here)
        return
    for choice in row_choices(len(rows), many, y):
        more = (*here, *choice)
        behind = y + 1
        if fits_above(here, choice) and may_stand(rows, many, more, behind):
            if may_hold(rows, letters, many, more, behind):
                put_on(rows, letters, many, more, behind, most, found)


def row_choices(size, many, y):
    """Return all lots of so many squares of a row, no two beside each other, in order."""
    # Those of a row without the squares that must part them, moved apart again.
    room = max(0, size - many + 1)
    return [tuple([(y, x + gap) for gap, x in enumerate(lot)]) for lot in combinations(range(room), many)]


def fits_above(here, choice):
    """Tell whether no square of a row is around one of those ahead."""
    return not any([touch(one, other) for one in here for other in choice])


def touch(one, other):
    """Tell whether two squares share a side or a corner."""
    return max(abs(one[0] - other[0]), abs(one[1] - other[1])) == 1


def may_stand(rows, many, here, y):
    """Tell whether each column may still come to so many by the rows from one on."""
    # Two of a column don't stand in rows beside each other.
    room = (len(rows) - y + 1) // 2
    had = [len([1 for spot in here if spot[1] == x]) for x in range(len(rows))]
    return all([count <= many <= count + room for count in had])


def may_hold(rows, letters, many, here, y):
    """Tell whether each of a row of letters may still come to so many by the rows from one on."""
    for letter in letters:
        had = len([1 for spot in here if rows[spot[0]][spot[1]] == letter])
        left = sum([len([1 for sign in row if sign == letter]) for row in rows[y:]])
        if not had <= many <= had + left:
            return False
    return True


def keeps_counts(rows, letters, many, lot):
    """Tell whether a lot has so many squares in each row, column and letter's lot, none around another."""
    lines = [len([1 for spot in lot if spot[way] == place]) for way in (0, 1) for place in range(len(rows))]
    signs = [rows[y][x] for y, x in lot]
    lots = [len([1 for sign in signs if sign == letter]) for letter in letters]
    return all([count == many for count in lines + lots]) and fits_above(lot, lot)


def check_stars(rows, many, lot):
    """Return how many stars a lot has that keeps all counts, none around another; BadPaper, BadSize, BadText."""
    lots = check_many(rows, many)
    size = len(rows)
    here = {spot: True for spot in lot}
    if len(here) != len(lot) or any([spot not in all_squares(size, size) for spot in lot]):
        raise BadPaper("the lot hasn't squares of the board, each once")
    lines = [len([1 for spot in lot if spot[way] == place]) for way in (0, 1) for place in range(size)]
    if any([count != many for count in lines]):
        raise BadPaper("a row or column has another count of stars")
    if any([len([1 for spot in spots if spot in here]) != many for spots in lots.values()]):
        raise BadPaper("a letter's lot has another count of stars")
    if any([one in here for spot in lot for one in around(spot, size, size)]):
        raise BadPaper("two stars touch")
    return len(lot)


def partners(posts, downs, rights, most=None):
    """Return all tables of posts to squares beside them, no posts nor around each other, by counts of rows and
    columns, in order; BadSquare first, BadSize."""
    high, wide = check_size(len(downs), len(rights))
    if len(set(posts)) != len(posts) or any([post not in all_squares(high, wide) for post in posts]):
        raise BadSize("posts stand on the board, each once")
    if sum(downs) != len(posts) or sum(rights) != len(posts) or min(list(downs) + list(rights)) < 0:
        raise BadSize("the counts of rows, and of columns, come to as many as there are posts, none below nought")
    found = []
    join_on(sorted(posts), {}, downs, rights, most, found)
    return tuple(found)


def join_on(posts, table, downs, rights, most, found):
    """Add the tables that begin with one to what is found, counts left."""
    if is_enough(found, most):
        return
    left = [post for post in sorted(posts) if post not in table]
    nears = [beside_posts([*posts, *table], post, table, downs, rights) for post in left]
    if not (may_count(nears, 0, downs) and may_count(nears, 1, rights)):
        return
    if left == []:
        found.append({post: table[post] for post in sorted(table)})
        return
    for y, x in nears[0]:
        begun = {post: table[post] for post in table}
        begun[left[0]] = (y, x)
        join_on(posts, begun, one_less(downs, y), one_less(rights, x), most, found)


def beside_posts(posts, post, table, downs, rights):
    """Return the squares that a post's partner may still take, in order."""
    spots = [spot for spot in beside(post, len(downs), len(rights)) if spot not in posts]
    return [(y, x) for y, x in spots if downs[y] > 0 and rights[x] > 0
            and not any([(y, x) == spot or touch((y, x), spot) for spot in table.values()])]


def may_count(nears, way, counts):
    """Tell whether rows (or columns) may still come to their counts by the squares that partners left may take."""
    room = {}
    for near in nears:
        for line in sorted({spot[way] for spot in near}):
            room[line] = room.get(line, 0) + 1
    return sum(counts) == len(nears) and all([count <= room.get(line, 0) for line, count in enumerate(counts)])


def one_less(counts, line):
    """Return counts where a line's is one less."""
    return [count - 1 if place == line else count for place, count in enumerate(counts)]


def check_partners(posts, downs, rights, table):
    """Return how many pairs a table has that keeps all counts; BadPaper."""
    high = len(downs)
    wide = len(rights)
    spots = list(table.values())
    if sorted(table) != sorted(posts) or len(set(spots)) != len(spots):
        raise BadPaper("the table hasn't just the posts, and each partner once")
    for post in table:
        spot = table[post]
        near = any([touch(spot, other) for other in spots])
        if near or spot not in beside(post, high, wide) or spot in posts:
            raise BadPaper("a partner stands beside its post, on no post, and not around another")
    if [len([1 for one in spots if one[0] == y]) for y in range(high)] != list(downs):
        raise BadPaper("a row has another count of partners")
    if [len([1 for one in spots if one[1] == x]) for x in range(wide)] != list(rights):
        raise BadPaper("a column has another count of partners")
    return len(table)
