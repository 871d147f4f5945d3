"""Point 26: blocks that slide, against all boards that they can come to."""

import unittest
from itertools import product

from boards_to_try import Numbers
from cluewright.errors import BadPaper, BadText, NoWay
from cluewright.slides import (BARE, FIXED, after_moves, all_boards, blocks_of, check_board, check_moves, fewest_moves,
                               is_at, left_table, moved_block, next_boards)

BAD_ROWS = [(), ("",), ("ab", "a"), ["a", ""]]
STEPS = ((-1, 0), (0, -1), (0, 1), (1, 0))
KNOWN = [("a.",), ("a", "."), ("..", ".."), ("#a.",), ("ab", "c."), ("aab", "..b", "c.."), ("a.a",), ("a#.", "..."),
         ("abc", "de."), ("aa.", "b#.", "b.c"), ("ab", "ba"), ("##", "#."), ("a.b", "#.#", "..."), ("Za.", "...")]


def signs_of(rows):
    return {(y, x): sign for y, row in enumerate(rows) for x, sign in enumerate(row)}


def tried_moves(rows):
    """Return (letter, step, rows) of all moves, by all squares' signs."""
    signs = signs_of(rows)
    found = []
    for letter in sorted(set(signs.values()) - {".", "#"}):
        lot = [spot for spot in signs if signs[spot] == letter]
        for step in STEPS:
            there = [(y + step[0], x + step[1]) for y, x in lot]
            if all(signs.get(spot, "#") in (".", letter) for spot in there):
                new = {spot: "." if spot in lot else sign for spot, sign in signs.items()}
                new.update({spot: letter for spot in there})
                moved = tuple("".join(new[(y, x)] for x in range(len(rows[0]))) for y in range(len(rows)))
                found.append((letter, step, moved))
    return found


def tried_boards(rows):
    """Return a table of all boards to the fewest moves, found by making all shorter till nothing changes."""
    known = {tuple(rows)}
    while True:
        more = known | {board for one in known for _, _, board in tried_moves(one)}
        if more == known:
            return shortest_to(known, {tuple(rows)})
        known = more


def shortest_to(boards, goals):
    """Return a table of boards to the fewest moves to one of some, as many as boards for none."""
    far = {board: 0 if board in goals else len(boards) for board in boards}
    changed = True
    while changed:
        changed = False
        for board in boards:
            least = min([far[there] for _, _, there in tried_moves(board)], default=len(boards)) + 1
            if least < far[board]:
                far[board] = least
                changed = True
    return far


def first_of(rows, letter):
    return min(spot for spot, sign in signs_of(rows).items() if sign == letter)


def first_shortest(rows, far):
    """Return the first of the shortest rows of moves, each step the first that brings the goal nearer."""
    here, moves = tuple(rows), []
    while far[here] > 0:
        letter, step, here = next(move for move in tried_moves(here) if far[move[2]] == far[here] - 1)
        moves.append((letter, step))
    return tuple(moves)


def boards():
    yield from KNOWN
    numbers = Numbers(26)
    for _ in range(40):
        high, wide = 1 + numbers.below(3), 1 + numbers.below(3)
        signs = "ab..." if high * wide > 6 else "abc..#"
        yield tuple("".join(signs[numbers.below(len(signs))] for _ in range(wide)) for _ in range(high))


class TestBoards(unittest.TestCase):
    def test_signs(self):
        self.assertEqual((BARE, FIXED), (".", "#"))

    def test_check_board(self):
        self.assertEqual(check_board(["a.", "#b"]), ("a.", "#b"))
        for rows in BAD_ROWS:
            for ask in (check_board, blocks_of, next_boards, all_boards):
                self.assertRaises(BadText, ask, rows)
            self.assertRaises(BadText, moved_block, rows, "a", (0, 1))
            self.assertRaises(BadText, is_at, rows, "a", (0, 0))
            self.assertRaises(BadText, fewest_moves, rows, "a", (0, 0))
            self.assertRaises(BadText, after_moves, rows, ())
            self.assertRaises(BadText, after_moves, rows, (("a", (2, 2)),))
            self.assertRaises(BadText, check_moves, rows, "a", (0, 0), (), {})
            self.assertRaises(BadText, left_table, rows, "a", (0, 0))

    def test_blocks_of(self):
        self.assertEqual(blocks_of(["b.a", "#bZ"]), ("Z", "a", "b"))
        self.assertEqual(blocks_of([".."]), ())
        self.assertEqual(blocks_of(["#"]), ())

    def test_moved_block(self):
        self.assertEqual(moved_block(["a."], "a", (0, 1)), (".a",))
        self.assertIsNone(moved_block(["a#"], "a", (0, 1)))
        self.assertIsNone(moved_block(["a."], "a", (0, -1)))
        self.assertIsNone(moved_block(["a."], "a", (1, 0)))
        self.assertEqual(moved_block(["a.a."], "a", (0, 1)), (".a.a",))
        self.assertIsNone(moved_block(["a.a"], "a", (0, 1)))
        for rows in boards():
            for letter in blocks_of(rows):
                for step in STEPS:
                    due = [move[2] for move in tried_moves(rows) if move[:2] == (letter, step)]
                    self.assertEqual(moved_block(list(rows), letter, step), due[0] if due else None)
        for letter in (".", "#", "b", ""):
            self.assertRaises(BadText, moved_block, ["a.#"], letter, (0, 1))

    def test_next_boards(self):
        self.assertEqual(next_boards(["..", ".."]), ())
        for rows in boards():
            given = list(rows)
            self.assertEqual(next_boards(given), tuple(tried_moves(rows)))
            self.assertEqual(given, list(rows))

    def test_is_at(self):
        rows = ["#.a", "aa."]
        self.assertIs(is_at(rows, "a", (0, 2)), True)
        self.assertIs(is_at(rows, "a", (1, 0)), False)
        self.assertIs(is_at(rows, ".", (0, 1)), True)
        self.assertIs(is_at(rows, "#", (0, 0)), True)
        self.assertRaises(BadText, is_at, rows, "b", (0, 0))

    def test_all_boards(self):
        self.assertEqual(all_boards(["..", ".."]), {("..", ".."): 0})
        self.assertEqual(all_boards(["#"]), {("#",): 0})
        self.assertEqual(all_boards(["a."]), {("a.",): 0, (".a",): 1})
        for rows in boards():
            table = all_boards(list(rows))
            self.assertEqual(table, tried_boards(rows))
            self.assertTrue(all("".join(board).count(sign) == "".join(rows).count(sign) for board in table
                                for sign in "".join(rows)))


class TestMoves(unittest.TestCase):
    def test_against_all_boards(self):
        seen = 0
        for rows in boards():
            far = tried_boards(rows)
            for letter in blocks_of(rows):
                for spot in product(range(len(rows)), range(len(rows[0]))):
                    left = shortest_to(set(far), {board for board in far if first_of(board, letter) == spot})
                    table = left_table(list(rows), letter, spot)
                    self.assertEqual(table, left)
                    if left[tuple(rows)] == len(far):
                        self.assertRaises(NoWay, fewest_moves, rows, letter, spot)
                        continue
                    moves = fewest_moves(list(rows), letter, spot)
                    self.assertEqual(moves, first_shortest(rows, left))
                    self.assertEqual(check_moves(list(rows), letter, spot, list(moves), table), len(moves))
                    seen += len(moves)
        self.assertGreater(seen, 200)

    def test_a_goal_that_is_there(self):
        self.assertEqual(fewest_moves(["a."], "a", (0, 0)), ())
        self.assertEqual(check_moves(["a."], "a", (0, 0), (), {("a.",): 0, (".a",): 1}), 0)

    def test_a_goal_that_cannot_be_come_to(self):
        for rows, spot in ((["a#."], (0, 2)), (["a."], (5, 5)), (["a"], (0, 1)), (["ab"], (0, 1))):
            self.assertRaises(NoWay, fewest_moves, rows, "a", spot)
            table = left_table(rows, "a", spot)
            self.assertEqual(set(table.values()), {len(table)})
        self.assertEqual(left_table(["a#."], "a", (0, 2)), {("a#.",): 1})

    def test_no_block(self):
        self.assertRaises(BadText, fewest_moves, ["a."], "b", (0, 0))
        self.assertRaises(BadText, left_table, ["a."], "b", (0, 0))
        self.assertRaises(BadText, check_moves, ["a."], "b", (0, 0), (), {})

    def test_after_moves(self):
        rows = ["ab", ".#"]
        self.assertEqual(after_moves(rows, ()), ("ab", ".#"))
        self.assertEqual(after_moves(rows, [("a", (1, 0)), ("b", (0, -1))]), ("b.", "a#"))
        self.assertEqual(rows, ["ab", ".#"])
        for step in ((0, 0), (1, 1), (0, 2), (-2, 0)):
            self.assertRaises(BadPaper, after_moves, rows, [("a", step)])
            self.assertRaises(BadPaper, after_moves, rows, [("z", step)])
        for moves in ([("a", (0, 1))], [("a", (-1, 0))], [("a", (1, 0)), ("b", (1, 0))]):
            self.assertRaises(BadPaper, after_moves, rows, moves)
        for letter in ("c", ".", "#"):
            self.assertRaises(BadText, after_moves, rows, [(letter, (0, 1))])
        self.assertRaises(BadPaper, after_moves, rows, [("a", (0, 1)), ("c", (0, 1))])

    def test_check_moves(self):
        rows = ["a..", ".#b"]
        moves = fewest_moves(rows, "a", (0, 2))
        table = left_table(rows, "a", (0, 2))
        given = dict(table)
        self.assertEqual(check_moves(rows, "a", (0, 2), moves, table), 2)
        self.assertEqual(table, given)
        for board in table:
            low, high = {**table, board: table[board] - 1}, {**table, board: table[board] + 1}
            bare = {one: table[one] for one in table if one != board}
            self.assertRaises(BadPaper, check_moves, rows, "a", (0, 2), moves, bare)
            self.assertRaises(BadPaper, check_moves, rows, "a", (0, 2), moves, {**table, board: -1})
            if table[board] == 0 or board == tuple(rows):
                self.assertRaises(BadPaper, check_moves, rows, "a", (0, 2), moves, low)
                self.assertRaises(BadPaper, check_moves, rows, "a", (0, 2), moves, high)
        far = max(table, key=table.get)
        self.assertRaises(BadPaper, check_moves, rows, "a", (0, 2), moves, {**table, far: table[far] + 9})
        for wrong in ((), moves[:1], (*moves, ("b", (-1, 0))), (("a", (0, -1)),)):
            self.assertRaises(BadPaper, check_moves, rows, "a", (0, 2), wrong, table)
        # As many moves as the table tells, but to another place.
        self.assertRaises(BadPaper, check_moves, rows, "a", (0, 2), (("a", (1, 0)), ("a", (-1, 0))), table)
        # No move lessens it by more than one, but it tells less than nought.
        low = {("a..",): 0, (".a.",): 0, ("..a",): -1}
        self.assertRaises(BadPaper, check_moves, ["a.."], "a", (0, 0), (), low)
        self.assertEqual(check_moves(["a.."], "a", (0, 0), (), {**low, ("..a",): 0}), 0)
        # One more there and back: the goal is come to, but not by the fewest moves.
        longer = (("a", (1, 0)), ("a", (-1, 0)), *moves)
        self.assertRaises(BadPaper, check_moves, rows, "a", (0, 2), longer, table)
        # A table that tells too little is kept by each move, but not by the number of moves.
        flat = {board: 0 for board in table}
        self.assertRaises(BadPaper, check_moves, rows, "a", (0, 2), moves, flat)
        self.assertRaises(BadPaper, check_moves, ["a..", "###"], "a", (0, 2), (("a", (0, 1)), ("a", (0, 1))), {})


if __name__ == "__main__":
    unittest.main()
