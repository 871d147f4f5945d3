"""Small boards of all kinds of rules, with no solution, one and many, the same at each run."""

from brute import all_solutions
from cluewright.boards import Board, boxed, joined, latin
from cluewright.cages import Cage, cage_board
from cluewright.rules import Count, Gap, Less, Runs, Sum, Tops, Unlike
from cluewright.squares import all_squares, column_of, row_of


class Numbers:
    """Numbers that look thrown, the same at each run."""

    def __init__(self, seed):
        self.now = seed * 7919 + 17

    def below(self, size):
        self.now = (self.now * 1103515245 + 12345) % 2147483648
        return (self.now >> 12) % size

    def some(self, rows, many):
        left = list(rows)
        return [left.pop(self.below(len(left))) for _ in range(many)]


def a_rule(numbers, spots):
    kind = numbers.below(7)
    if kind == 0:
        return Unlike(numbers.some(spots, 2 + numbers.below(len(spots) - 1)))
    if kind == 1:
        return Sum(numbers.some(spots, 1 + numbers.below(3)), numbers.below(7))
    if kind == 2:
        return Less(*numbers.some(spots, 2))
    if kind == 3:
        return Gap(*numbers.some(spots, 2), numbers.below(3))
    if kind == 4:
        return Tops(numbers.some(spots, 3), 1 + numbers.below(3))
    if kind == 5:
        return Runs(numbers.some(spots, 3), ((), (1,), (2,), (3,), (1, 1))[numbers.below(5)])
    return Count(numbers.some(spots, 3), numbers.below(4), numbers.below(3))


def a_board(seed):
    """Return a board of four to six squares, with up to five rules."""
    numbers = Numbers(seed)
    spots = all_squares(2, 2 + numbers.below(2))
    values = {spot: numbers.some(range(4), 1 + numbers.below(4)) for spot in spots}
    return Board(values, [a_rule(numbers, spots) for _ in range(numbers.below(6))])


def a_picture(rows, columns):
    """Return the board of noughts and ones with runs in rows and columns."""
    high, wide = len(rows), len(columns)
    across = [Runs(row_of(y, wide), rows[y]) for y in range(high)]
    down = [Runs(column_of(x, high), columns[x]) for x in range(wide)]
    return Board({spot: (0, 1) for spot in all_squares(high, wide)}, across + down)


def known_boards():
    """Return boards that are puzzles people know, small enough to try all tables."""
    tower = [Tops(row_of(0, 3), 1), Tops(tuple(reversed(column_of(0, 3))), 2)]
    far = latin(2)
    shifted = Board({(y, x + 2): row for (y, x), row in far.options.items()}, [Less((0, 2), (0, 3))])
    return [
        latin(1), latin(2), latin(3), latin(3, tower), latin(3, [Less((0, 0), (0, 1)), Gap((1, 1), (2, 2), 0)]),
        latin(3, [Sum(((0, 0), (0, 1)), 3), Count(((0, 0), (1, 1), (2, 2)), 2, 3)]),
        boxed(1, 1), boxed(1, 2), boxed(1, 3),
        a_picture([(1,), (3,), (1,)], [(1,), (3,), (1,)]), a_picture([(1,), (1,)], [(1,), (1,)]),
        a_picture([(2,), ()], [(), (2,)]), joined(far, shifted), joined(far, latin(3)),
        Board({(0, 0): (5,)}, []), Board({(0, 0): (1, 2), (8, 8): (0, 3)}, []),
        Board({(0, 0): (1, 2), (0, 1): (1, 2), (0, 2): (1, 2)}, [Unlike(row_of(0, 3))]),
        a_ring((1, 2)), a_ring((1, 2, 3)), a_ring((1, 2)).given({(0, 0): 1}),
    ]


def a_ring(numbers):
    """Return the board of three squares unlike by pairs: with two numbers no step tells that there is no solution."""
    one, two, three = row_of(0, 3)
    return Board({spot: numbers for spot in row_of(0, 3)}, [Unlike((one, two)), Unlike((two, three)),
                                                            Unlike((three, one))])


def a_cage(numbers, spots):
    return Cage(numbers.some(spots, 1 + numbers.below(3)), numbers.below(7) - 1, "+-x/"[numbers.below(4)])


def a_cage_board(seed):
    """Return a board of four to six squares, with up to three cages and up to two other rules."""
    numbers = Numbers(seed)
    spots = all_squares(2, 2 + numbers.below(2))
    values = {spot: numbers.some(range(5), 1 + numbers.below(4)) for spot in spots}
    cages = [a_cage(numbers, spots) for _ in range(1 + numbers.below(3))]
    return Board(values, cages + [a_rule(numbers, spots) for _ in range(numbers.below(3))])


def cage_boards():
    """Return boards with cages, thrown and known."""
    three = cage_board(("aab", "ccb", "dde"), {"a": (2, "-"), "b": (6, "x"), "c": (3, "+"), "d": (3, "/"),
                                               "e": (2, "+")})
    two = cage_board(("ab", "ab"), {"a": (2, "/"), "b": (3, "+")})
    none = cage_board(("ab", "ab"), {"a": (3, "x"), "b": (3, "+")})
    return [three, two, none] + [a_cage_board(seed) for seed in range(60)]


def with_clues(board):
    """Return a board with two numbers of its last solution given, none where it has no solution."""
    found = all_solutions(board)[-1:]
    return [board.given({spot: table[spot] for spot in board.all_spots()[1:3]}) for table in found]


def boards():
    thrown = [a_board(seed) for seed in range(120)]
    clued = [one for board in thrown[:60] for one in with_clues(board)]
    return known_boards() + thrown + clued + cage_boards()
