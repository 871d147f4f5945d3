"""Paths: ways through all squares by told numbers, and ways that join pairs without crossing."""

from cluewright.errors import BadPaper, BadSize
from cluewright.search import is_enough
from cluewright.squares import all_squares, around, beside, box_at, parts_of


def near_of(spot, high, wide, slant):
    """Return the squares beside one, or around it where slant."""
    if slant:
        return around(spot, high, wide)
    return beside(spot, high, wide)


def nears_of(high, wide, slant):
    """Return a table of all squares to the squares beside them, or around them where slant."""
    return {spot: near_of(spot, high, wide, slant) for spot in box_at(0, 0, high, wide)}


def check_marks(marks, high, wide):
    """Return a table of squares to numbers, each once, from one to the board's size; BadSize."""
    spots = all_squares(high, wide)
    if any([spot not in spots or not 1 <= marks[spot] <= len(spots) for spot in marks]):
        raise BadSize("a mark stands on the board, and is one to its size")
    if len(set(list(marks.values()))) != len(marks):
        raise BadSize("two marks have one number")
    return {spot: marks[spot] for spot in sorted(marks)}


def paths(marks, high, wide, slant=False, most=None):
    """Return all ways through all squares, at marked ones by their numbers, in order, so many where told; BadSize."""
    known = check_marks(marks, high, wide)
    places = {known[spot]: spot for spot in known}
    found = []
    go_on(known, places, (), high, wide, slant, most, found)
    return tuple(found)


def go_on(known, places, row, high, wide, slant, most, found):
    """Add the ways that begin with a row to what is found."""
    near = nears_of(high, wide, slant)
    if begins_well(known, places, row, near) and marks_reach(places, slant):
        free = {spot: True for spot in near if spot not in row}
        walk((known, places, near, slant), free, tuple(row), most, found)


def begins_well(known, places, row, near):
    """Tell whether a row has squares of the board, each once and near the one ahead, and keeps marks."""
    if len(set(row)) != len(row) or any([spot not in near for spot in row]):
        return False
    if any([other not in near[one] for one, other in zip(row, row[1:])]):
        return False
    return all([fits(known, places, spot, number) for number, spot in enumerate(row, 1)])


def fits(known, places, spot, number):
    """Tell whether marks let a square have a number on the way."""
    return known.get(spot, number) == number and places.get(number, spot) == spot


def marks_reach(places, slant):
    """Tell whether each mark is near enough to the next one."""
    numbers = sorted(places)
    return all([in_reach(places[one], places[other], other - one, slant) for one, other in zip(numbers, numbers[1:])])


def in_reach(one, other, many, slant):
    """Tell whether so many steps may lead from a square to another."""
    down = abs(one[0] - other[0])
    right = abs(one[1] - other[1])
    if slant:
        return max(down, right) <= many
    return down + right <= many and (many - down - right) % 2 == 0


def walk(ground, free, row, most, found):
    """Add the ways that begin with a row, and go on by free squares, to what is found."""
    known, places, near, _ = ground
    if is_enough(found, most):
        return
    if free == {}:
        found.append(row)
        return
    if row != () and not may_go(ground, free, row):
        return
    nexts = tuple(near) if row == () else near[row[-1]]
    for spot in nexts:
        if spot in free and fits(known, places, spot, len(row) + 1):
            rest = {one: True for one in free if one != spot}
            walk(ground, rest, (*row, spot), most, found)


def may_go(ground, free, row):
    """Tell whether a row may still go on through all free squares."""
    _, places, near, slant = ground
    here = row[-1]
    ahead = [number for number in places if number > len(row)]
    if ahead != [] and not in_reach(here, places[min(ahead)], min(ahead) - len(row), slant):
        return False
    # A way by sides changes its colour at each step, as on a board of black and white.
    if not slant and len([1 for y, x in free if (y + x - here[0] - here[1]) % 2 == 0]) != len(free) // 2:
        return False
    return ends_well(places.get(len(near)), near, free, here) and is_all_there(near, free, here)


def ends_well(last, near, free, here):
    """Tell whether no free square but the last one has less than two squares to come from and go to."""
    ends = [spot for spot in free if len([1 for one in near[spot] if one in free or one == here]) < 2]
    return ends == [] or (len(ends) == 1 and (last is None or ends[0] == last))


def is_all_there(near, free, here):
    """Tell whether each free square can be come to from a square by free ones."""
    seen = {here: True}
    waiting = [here]
    while waiting != []:
        now = waiting.pop()
        for spot in near[now]:
            if spot in free and spot not in seen:
                seen[spot] = True
                waiting.append(spot)
    return len(seen) == len(free) + 1


def check_path(marks, row, high, wide, slant=False):
    """Return True where a row of squares is a way through all that keeps marks; BadPaper, BadSize."""
    known = check_marks(marks, high, wide)
    if sorted(row) != list(all_squares(high, wide)):
        raise BadPaper("the row hasn't each square once")
    if any([other not in near_of(one, high, wide, slant) for one, other in zip(row, row[1:])]):
        raise BadPaper("a square isn't near the one ahead")
    if any([row[known[spot] - 1] != spot for spot in known]):
        raise BadPaper("a mark's square has another number")
    return True


def check_pairs(pairs, high, wide):
    """Return a table of names to two squares each, none twice; BadSize."""
    spots = [spot for name in pairs for spot in pairs[name]]
    if any([len(pairs[name]) != 2 for name in pairs]) or len(set(spots)) != len(spots):
        raise BadSize("a pair has two squares, and none is another pair's")
    there = all_squares(high, wide)
    if any([spot not in there for spot in spots]):
        raise BadSize("a pair's square isn't on the board")
    return {name: tuple(pairs[name]) for name in sorted(pairs)}


def links(pairs, high, wide, full=True, most=None):
    """Return all tables of names to ways between their squares, none twice, all taken where full, in order; BadSize."""
    known = check_pairs(pairs, high, wide)
    found = []
    link_on(known, list(known), {}, {}, high, wide, full, most, found)
    return tuple(found)


def link_on(known, left, table, taken, high, wide, full, most, found):
    """Add the tables that begin with one to what is found, names left in order."""
    near = nears_of(high, wide, False)
    gone = {spot: True for name in table for spot in table[name]}
    # A way that goes through an end of a name left leaves that name none.
    if not any([spot in gone for name in left for spot in known[name]]):
        free = bare_squares(known, left, table, taken, near)
        link_names((known, near, full, most), list(left), table, free, len(free), found)


def bare_squares(known, left, table, taken, near):
    """Return the squares, as a table, that ways may still take: not taken, no way's, and no end of a name left."""
    barred = {spot: True for spot in taken}
    for row in list(table.values()) + [known[name] for name in left]:
        for spot in row:
            barred[spot] = True
    return {spot: True for spot in near if spot not in barred}


def link_names(ground, left, table, free, spare, found):
    """Add the tables that begin with one, names left in order and so many free squares at most, to what is found."""
    known, _, full, most = ground
    if is_enough(found, most):
        return
    if left == []:
        if free == {} or not full:
            found.append({name: table[name] for name in sorted(table)})
        return
    step_on(ground, left, table, free, known[left[0]][:1], spare, found)


def step_on(ground, left, table, free, way, spare, found):
    """Add the tables in which the first name left has a way that begins so, to what is found."""
    known, near, _, most = ground
    name = left[0]
    if is_enough(found, most) or not may_link(ground, left, free, way[-1], spare):
        return
    for spot in near[way[-1]]:
        if spot == known[name][1]:
            begun = {one: table[one] for one in table}
            begun[name] = (*way, spot)
            link_names(ground, left[1:], begun, free, spare, found)
        elif spot in free:
            rest = {one: True for one in free if one != spot}
            step_on(ground, left, table, rest, (*way, spot), spare - 1, found)


def may_link(ground, left, free, here, spare):
    """Tell whether names left, the first from a square on, may still be linked by so many free squares."""
    known, near, full, _ = ground
    gaps = [(here, known[left[0]][1])] + [known[name] for name in left[1:]]
    if sum([abs(one[0] - other[0]) + abs(one[1] - other[1]) - 1 for one, other in gaps]) > spare:
        return False
    ends = {spot: True for gap in gaps for spot in gap}
    if full and any([len([1 for one in near[spot] if one in free or one in ends]) < 2 for spot in free]):
        return False
    parts = [[spot for one in part for spot in near[one]] for part in parts_of(free)]
    if full and not all([any([one in edge and other in edge for one, other in gaps]) for edge in parts]):
        return False
    return all([other in near[one] or any([one in edge and other in edge for edge in parts]) for one, other in gaps])


def ways_between(start, end, taken, high, wide):
    """Return all ways from a square to another by sides through squares not taken, none twice, in order."""
    if start == end:
        return ((start,),)
    near = nears_of(high, wide, False)
    known = {0: (start, end)}
    free = bare_squares(known, [0], {}, taken, near)
    found = []
    link_names((known, near, False, None), [0], {}, free, len(free), found)
    return tuple([table[0] for table in found])


def check_links(pairs, table, high, wide, full=True):
    """Return how many squares the ways of a table take; BadPaper, BadSize."""
    known = check_pairs(pairs, high, wide)
    if sorted(table) != sorted(known):
        raise BadPaper("the table hasn't just the pairs' names")
    spots = [spot for name in table for spot in table[name]]
    if len(set(spots)) != len(spots) or (full and len(spots) != high * wide):
        raise BadPaper("a square is taken twice, or one isn't taken")
    for name in table:
        row = table[name]
        if (*row[:1], *row[-1:]) != known[name]:
            raise BadPaper("a way doesn't go from a pair's first square to its second")
        if any([other not in beside(one, high, wide) for one, other in zip(row, row[1:])]):
            raise BadPaper("a square isn't beside the one ahead")
    return len(spots)


def shortest(pairs, high, wide):
    """Return the first of all tables of ways that take the fewest squares, None for none; BadSize."""
    if links(pairs, high, wide, False, 1) == ():
        return None
    known = check_pairs(pairs, high, wide)
    near = nears_of(high, wide, False)
    free = bare_squares(known, list(known), {}, {}, near)
    found = []
    spare = 0
    # So many free squares at most, one more each time: the first found takes the fewest.
    while found == []:
        link_names((known, near, False, 1), list(known), {}, free, spare, found)
        spare += 1
    return found[0]
