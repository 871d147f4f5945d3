"""Loops: single ways round along the edges of squares, told by how many of a square's edges they go along."""

from cluewright.errors import BadPaper, BadSize
from cluewright.search import is_enough
from cluewright.squares import check_size


def edges_of(high, wide):
    """Return all edges between corners, (corner, corner), in order; BadSquare."""
    check_size(high, wide)
    edges = []
    for y in range(high + 1):
        for x in range(wide + 1):
            if x < wide:
                edges.append(((y, x), (y, x + 1)))
            if y < high:
                edges.append(((y, x), (y + 1, x)))
    return tuple(edges)


def round_square(spot):
    """Return the four edges of a square: top, left, right, bottom."""
    y, x = spot
    top = ((y, x), (y, x + 1))
    bottom = ((y + 1, x), (y + 1, x + 1))
    return (top, ((y, x), (y + 1, x)), ((y, x + 1), (y + 1, x + 1)), bottom)


def check_clues(clues, high, wide):
    """Return a table of squares to counts from nought to four; BadSize."""
    check_size(high, wide)
    for y, x in clues:
        if not 0 <= y < high or not 0 <= x < wide or not 0 <= clues[(y, x)] <= 4:
            raise BadSize("a clue stands on the board, and is nought to four")
    return {spot: clues[spot] for spot in sorted(clues)}


def is_loop(edges):
    """Tell whether edges are one way round: some, none twice, two at each corner, and all hang together."""
    ends = edges_by_corner(edges)
    if len(edges) == 0 or len(set(edges)) != len(edges) or any([len(row) != 2 for row in ends.values()]):
        return False
    seen = {edges[0][0]: True}
    waiting = [edges[0][0]]
    while waiting != []:
        here = waiting.pop()
        for corner in [end for edge in ends[here] for end in edge]:
            if corner not in seen:
                seen[corner] = True
                waiting.append(corner)
    return len(seen) == len(ends)


def edges_by_corner(edges):
    """Return a table of corners to the edges, of some, that they have."""
    ends = {}
    for edge in edges:
        for corner in edge:
            ends.setdefault(corner, []).append(edge)
    return ends


def loops(clues, high, wide, most=None):
    """Return all single loops that keep clues, as edges in order, the first so many where told; BadSize, BadSquare."""
    known = check_clues(clues, high, wide)
    found = []
    lay_edges(known, edges_of(high, wide), (), 0, most, found)
    return tuple(found)


def lay_edges(known, edges, row, place, most, found):
    """Add the loops that begin with a row to what is found, edges from a place on left."""
    left = tuple(edges[place:])
    need = {spot: known[spot] - how_many_of(row, round_square(spot)) for spot in known}
    if is_loop(row):
        # Another edge would make no loop of it: it stands as it is, or not at all.
        if all([lacking == 0 for lacking in need.values()]) and not is_enough(found, most):
            found.append(tuple(row))
    elif may_go(known, edges, row, place):
        ends = {}
        for edge in row:
            if closes(ends, edge):
                return
            ends = joined_by(ends, edge)
        go_round(plan_of(known, left), ends, need, tuple(row), most, found)


def how_many_of(row, edges):
    """Return how many of some edges a row has."""
    return len([edge for edge in edges if edge in row])


def plan_of(known, left):
    """Return, for each edge left, it, its corners that no edge behind it has, and the (clue's square, edges left
    behind it) pairs of the clues that count it; the last edge first."""
    room = {}
    later = {}
    by_edge = {}
    for spot in known:
        for edge in round_square(spot):
            by_edge.setdefault(edge, []).append(spot)
    plan = []
    for edge in reversed(left):
        spots = by_edge.get(edge, [])
        plan.append((edge, [corner for corner in edge if corner not in later],
                     [(spot, room.get(spot, 0)) for spot in spots]))
        for corner in edge:
            later[corner] = True
        for spot in spots:
            room[spot] = room.get(spot, 0) + 1
    return plan


def go_round(plan, ends, need, row, most, found):
    """Add the loops that begin with a row to what is found: the first edge left taken, then left out."""
    if plan == [] or is_enough(found, most):
        return
    edge, done, clues = plan[-1]
    behind = plan[:-1]
    taken = need_behind(need, clues, 1)
    if taken is not None and can_take(ends, edge):
        joined = joined_by(ends, edge)
        if closes(ends, edge):
            if is_whole(joined, taken):
                found.append((*row, edge))
        elif not is_loose(joined, done):
            go_round(behind, joined, taken, (*row, edge), most, found)
    bare = need_behind(need, clues, 0)
    if bare is not None and not is_loose(ends, done):
        go_round(behind, ends, bare, row, most, found)


def need_behind(need, clues, much):
    """Return what clues need behind an edge, taken (one) or left out (nought), None where one can't be kept."""
    if clues == []:
        return need
    rest = {spot: need[spot] for spot in need}
    for spot, room in clues:
        rest[spot] -= much
        if not 0 <= rest[spot] <= room:
            return None
    return rest


def can_take(ends, edge):
    """Tell whether both corners of an edge have less than two edges."""
    # A table of corners that have edges to the other end of their way, None where the way goes through.
    return all([ends.get(corner, corner) is not None for corner in edge])


def closes(ends, edge):
    """Tell whether an edge joins the two ends of one way."""
    return ends.get(edge[0]) == edge[1]


def joined_by(ends, edge):
    """Return the ends of ways behind one more edge."""
    one, other = edge
    far_one = ends.get(one, one)
    far_other = ends.get(other, other)
    joined = {corner: ends[corner] for corner in ends}
    joined[one] = None
    joined[other] = None
    if far_one != other:
        joined[far_one] = far_other
        joined[far_other] = far_one
    return joined


def is_loose(ends, corners):
    """Tell whether a way ends at one of some corners, which no edge left has."""
    return any([ends.get(corner) is not None for corner in corners])


def is_whole(ends, need):
    """Tell whether no way has an end and no clue needs more."""
    return all([far is None for far in ends.values()]) and all([lacking == 0 for lacking in need.values()])


def may_go(known, edges, row, place):
    """Tell whether corners and clues may still be kept by a row of edges and those from a place on."""
    here = {edge: True for edge in row}
    left = {edge: True for edge in edges[place:]}
    for edge in row:
        for corner in edge:
            near = near_corner(corner)
            many = how_many_of(here, near)
            if many > 2 or (many == 1 and how_many_of(left, near) == 0):
                return False
    for spot in known:
        many = how_many_of(here, round_square(spot))
        if not many <= known[spot] <= many + how_many_of(left, round_square(spot)):
            return False
    return True


def near_corner(corner):
    """Return the edges that a corner may have."""
    y, x = corner
    return (((y - 1, x), corner), ((y, x - 1), corner), (corner, (y, x + 1)), (corner, (y + 1, x)))


def inside(edges, high, wide):
    """Return the squares within a loop, in order; BadPaper for edges that are none."""
    if not is_loop(edges):
        raise BadPaper("the edges aren't one way round")
    lot = {edge: True for edge in edges}
    return tuple([(y, x) for y in range(high) for x in range(wide) if sides_left_of((y, x), lot) % 2 == 1])


def sides_left_of(spot, lot):
    """Return how many upright edges of a lot stand to the left of a square in its row."""
    return len([x for x in range(spot[1] + 1) if ((spot[0], x), (spot[0] + 1, x)) in lot])


def clues_of(edges, high, wide):
    """Return a table of all squares to how many of their edges a lot has."""
    lot = {edge: True for edge in edges}
    return {(y, x): how_many_of(lot, round_square((y, x))) for y in range(high) for x in range(wide)}


def about(spots):
    """Return the edges that part squares from those that aren't of them, in order."""
    times = {}
    for spot in sorted(set(spots)):
        for edge in round_square(spot):
            times[edge] = times.get(edge, 0) + 1
    return tuple([edge for edge in sorted(times) if times[edge] == 1])


def check_loop(clues, edges, high, wide):
    """Return how long a loop that keeps clues is; BadPaper, BadSize."""
    known = check_clues(clues, high, wide)
    there = edges_of(high, wide)
    if any([edge not in there for edge in edges]) or len(set(edges)) != len(edges):
        raise BadPaper("the edges aren't the board's, each once")
    counts = clues_of(edges, high, wide)
    if not is_loop(edges) or any([counts[spot] != known[spot] for spot in known]):
        raise BadPaper("the edges aren't one way round that keeps the clues")
    return len(edges)
