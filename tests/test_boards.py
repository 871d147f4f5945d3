"""Point 4 and 20: boards, their squares, numbers and rules, latin and boxed ones, and joined."""

import unittest
from itertools import product

import brute
from boards_to_try import boards
from cluewright.boards import Board, boxed, in_order, joined, latin
from cluewright.errors import BadRule, BadSquare, NoSuch
from cluewright.rules import Less, Sum, Unlike
from cluewright.squares import all_squares, boxes, column_of, row_of

A, B, C = (0, 0), (0, 1), (1, 0)


class TestBoard(unittest.TestCase):
    def test_in_order_each_once(self):
        board = Board({B: [3, 1, 3], A: (2,)}, [Less(A, B)])
        self.assertEqual(board.options, {A: (2,), B: (1, 3)})
        self.assertEqual(list(board.options), [A, B])
        self.assertEqual(board.all_spots(), (A, B))
        self.assertEqual(in_order([3, 1, 3, 0]), (0, 1, 3))
        self.assertEqual(in_order(()), ())

    def test_fields(self):
        rules = [Less(A, B), Unlike((A, C))]
        board = Board({A: (1,), B: (1, 2), C: (1,)}, rules)
        self.assertIsInstance(board.options, dict)
        self.assertEqual(board.rules, tuple(rules))
        self.assertEqual(board.with_spot, {A: (rules[0], rules[1]), B: (rules[0],), C: (rules[1],)})
        self.assertEqual(Board({A: (1,)}, ()).with_spot, {A: ()})

    def test_refused(self):
        self.assertRaises(BadSquare, Board, {}, [])
        self.assertRaises(BadSquare, Board, {A: (1,), B: ()}, [])
        self.assertRaises(BadRule, Board, {A: (1,)}, [Less(A, B)])
        # Where squares and rules are wrong, squares are named first.
        self.assertRaises(BadSquare, Board, {}, [Less(A, B)])
        self.assertRaises(BadSquare, Board, {A: []}, [Less(A, B)])

    def test_handed_in_stays(self):
        values, rules = {B: [2, 1], A: (1,)}, [Unlike((A, B))]
        board = Board(values, rules)
        self.assertEqual(list(values.items()), [(B, [2, 1]), (A, (1,))])
        values[A] = (7,)
        rules.append(Less(A, B))
        self.assertEqual(board.options[A], (1,))
        self.assertEqual(len(board.rules), 1)

    def test_shown(self):
        board = Board({B: (2, 1), A: (1,)}, [Less(A, B), Sum((B,), 2)])
        self.assertEqual(board.shown(), (((A, (1,)), (B, (1, 2))), (("less", (A, B)), ("sum", (B,), 2))))
        self.assertEqual(Board({A: (0,)}, []).shown(), (((A, (0,)),), ()))


class TestGiven(unittest.TestCase):
    def test_only_the_clues_numbers(self):
        board = latin(3)
        clues = {(1, 1): 2, (0, 0): 3}
        given = board.given(clues)
        self.assertEqual(given.options, {**latin(3).options, (1, 1): (2,), (0, 0): (3,)})
        self.assertEqual(list(given.options), list(all_squares(3, 3)))
        self.assertEqual(given.rules, board.rules)
        self.assertEqual(board.options, latin(3).options)
        self.assertEqual(clues, {(1, 1): 2, (0, 0): 3})
        self.assertEqual(board.given({}).shown(), board.shown())

    def test_not_there(self):
        board = latin(3)
        for clues in ({(3, 3): 1}, {A: 4}, {A: 0}, {A: 1, B: 9}, {A: 1, (9, 9): 1}):
            self.assertRaises(NoSuch, board.given, clues)
        self.assertRaises(NoSuch, board.given({A: 1}).given, {A: 2})
        self.assertEqual(board.options, latin(3).options)

    def test_without(self):
        board = latin(2)
        self.assertEqual(board.without(A, 1).options[A], (2,))
        self.assertEqual(board.without(A, 1).options[B], (1, 2))
        self.assertEqual(board.without(A, 1).rules, board.rules)
        self.assertEqual(board.options[A], (1, 2))
        self.assertRaises(NoSuch, board.without, (2, 2), 1)
        self.assertRaises(NoSuch, board.without, A, 3)
        self.assertRaises(BadSquare, board.without(A, 1).without, A, 2)
        self.assertRaises(NoSuch, board.without(A, 1).without, A, 1)


class TestMayAndKeeps(unittest.TestCase):
    def test_may(self):
        board = latin(2)
        self.assertIs(board.may({}), True)
        self.assertIs(board.may({A: 1}), True)
        self.assertIs(board.may({A: 1, B: 1}), False)
        self.assertIs(board.may({A: 1, (1, 1): 1}), True)

    def test_keeps(self):
        board = latin(2)
        whole = {(0, 0): 1, (0, 1): 2, (1, 0): 2, (1, 1): 1}
        self.assertIs(board.keeps(whole), True)
        self.assertIs(board.keeps({**whole, (1, 1): 2}), False)
        self.assertIs(board.keeps({**whole, (1, 1): 3}), False)
        self.assertIs(board.keeps({spot: whole[spot] for spot in whole if spot != A}), False)
        self.assertIs(board.keeps({}), False)
        self.assertIs(board.without(A, 1).keeps(whole), False)
        self.assertIs(Board({A: (0, 1)}, []).keeps({A: 1}), True)

    def test_against_all_tables(self):
        for board in boards():
            spots = board.all_spots()
            if len(spots) > 4:
                continue
            due = brute.all_solutions(board)
            for row in product(range(4), repeat=len(spots)):
                table = dict(zip(spots, row))
                self.assertIs(board.keeps(table), table in due)
                if table in due:
                    self.assertIs(board.may(table), True)
                    self.assertIs(board.may({spot: table[spot] for spot in spots[1:]}), True)


class TestLatin(unittest.TestCase):
    def test_rules_in_order(self):
        more = [Less(A, B)]
        board = latin(3, more)
        due = [row_of(y, 3) for y in range(3)] + [column_of(x, 3) for x in range(3)] + [(A, B)]
        self.assertEqual([rule.spots for rule in board.rules], due)
        self.assertEqual([rule.shown()[0] for rule in board.rules], ["unlike"] * 6 + ["less"])
        self.assertEqual(board.options, {spot: (1, 2, 3) for spot in all_squares(3, 3)})
        self.assertEqual(more[0], board.rules[-1])

    def test_edges(self):
        self.assertEqual(latin(1).options, {A: (1,)})
        self.assertEqual(len(latin(9).options), 81)
        self.assertEqual(len(latin(9).rules), 18)
        for size in (0, 10, -1):
            self.assertRaises(BadSquare, latin, size)
            self.assertRaises(BadSquare, latin, size, [Less((8, 8), (12, 12))])
        self.assertRaises(BadRule, latin, 2, [Less(A, (2, 2))])

    def test_boxed(self):
        board = boxed(2, 3, (Less(A, B),))
        due = [row_of(y, 6) for y in range(6)] + [column_of(x, 6) for x in range(6)]
        due = due + list(boxes(6, 6, 2, 3)) + [(A, B)]
        self.assertEqual([rule.spots for rule in board.rules], due)
        self.assertEqual(board.options[A], (1, 2, 3, 4, 5, 6))
        self.assertEqual(boxed(1, 1).options, {A: (1,)})
        self.assertEqual(len(boxed(3, 3).rules), 27)

    def test_boxed_refused(self):
        for what in ((0, 3), (3, 0), (-2, -2), (-1, 3), (2, 5), (5, 2), (10, 1)):
            self.assertRaises(BadSquare, boxed, *what)
        self.assertRaises(BadRule, boxed, 1, 2, [Less(A, (2, 2))])


class TestJoined(unittest.TestCase):
    def test_numbers_that_both_have(self):
        one = Board({A: (1, 2, 3), B: (1,)}, [Less(B, A)])
        other = Board({C: (7, 8), A: (2, 3, 4)}, [Unlike((A, C))])
        board = joined(one, other)
        self.assertEqual(board.options, {A: (2, 3), B: (1,), C: (7, 8)})
        self.assertEqual(list(board.options), [A, B, C])
        self.assertEqual(board.rules, one.rules + other.rules)
        self.assertEqual(one.options[A], (1, 2, 3))
        self.assertEqual(other.options[A], (2, 3, 4))

    def test_no_square_of_both(self):
        board = joined(Board({B: (1,)}, []), Board({A: (2,)}, []))
        self.assertEqual(board.shown(), (((A, (2,)), (B, (1,))), ()))

    def test_no_number_of_both(self):
        self.assertRaises(BadSquare, joined, Board({A: (1,)}, []), Board({A: (2,)}, []))


if __name__ == "__main__":
    unittest.main()
