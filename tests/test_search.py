"""Point 5, and the main promise of point 1: all solutions are told and no other, in order."""

import unittest

import brute
from boards_to_try import boards
from cluewright.boards import Board, boxed, latin
from cluewright.errors import BadSize, NoWay
from cluewright.rules import Less, Sum, Unlike
from cluewright.search import chances, first, fits, how_many, is_unique, lay, possible, solutions, sure
from cluewright.squares import read, row_of, told

A, B, C = (0, 0), (0, 1), (0, 2)
NONE = Board({A: (1, 2), B: (1, 2), C: (1, 2)}, [Unlike(row_of(0, 3))])
ONE = Board({A: (1, 2), B: (1, 2), C: (1, 3)}, [Less(A, B), Sum((B, C), 5)])


class TestSolutions(unittest.TestCase):
    def test_against_all_tables(self):
        for board in boards():
            due = brute.all_solutions(board)
            found = solutions(board)
            self.assertIsInstance(found, tuple)
            self.assertEqual(list(found), due)
            for table in found:
                self.assertEqual(list(table), list(board.all_spots()))

    def test_the_first_so_many(self):
        for board in boards():
            due = brute.all_solutions(board)
            for most in (0, 1, 2, 5, len(due), len(due) + 1):
                self.assertEqual(list(solutions(board, most)), due[:most])
                self.assertEqual(how_many(board, most), min(most, len(due)))
            self.assertEqual(how_many(board), len(due))
            self.assertIs(is_unique(board), len(due) == 1)

    def test_most_below_nought(self):
        for board in (NONE, ONE, latin(2)):
            self.assertRaises(BadSize, solutions, board, -1)
            self.assertRaises(BadSize, how_many, board, -1)
            self.assertEqual(solutions(board, 0), ())

    def test_known_numbers_of_latins(self):
        self.assertEqual([how_many(latin(size)) for size in (1, 2, 3, 4)], [1, 2, 12, 576])
        self.assertEqual(how_many(boxed(2, 2)), 288)

    def test_nine_by_nine(self):
        rows = ("53..7....", "6..195...", ".98....6.", "8...6...3", "4..8.3..1", "7...2...6", ".6....28.", "...419..5",
                "....8..79")
        found = solutions(boxed(3, 3).given(read(rows)))
        self.assertEqual([told(table, 9, 9) for table in found], [(
            "534678912", "672195348", "198342567", "859761423", "426853791", "713924856", "961537284", "287419635",
            "345286179")])


class TestLay(unittest.TestCase):
    def test_what_begins_with_a_table(self):
        for board in boards():
            due = brute.all_solutions(board)
            spots = board.all_spots()
            for begun in ({}, {spots[0]: board.options[spots[0]][0]},
                          {spots[-1]: board.options[spots[-1]][-1]}, {spot: board.options[spot][0] for spot in spots}):
                whole = [row for row in due if all(row[spot] == begun[spot] for spot in begun)]
                for left in (spots, [spot for spot in spots if spot not in begun]):
                    kept = dict(begun)
                    found = []
                    self.assertIsNone(lay(board, left, kept, found, None))
                    self.assertEqual(found, whole)
                    self.assertEqual(list(kept.items()), list(begun.items()))

    def test_till_there_are_so_many(self):
        board = latin(3)
        due = brute.all_solutions(board)
        found = ["here"]
        lay(board, board.all_spots(), {}, found, 3)
        self.assertEqual(found, ["here", *due[:2]])
        lay(board, board.all_spots(), {}, found, 3)
        self.assertEqual(len(found), 3)
        lay(board, (), due[5], found, 4)
        self.assertEqual(found[3], due[5])
        lay(board, (), due[6], found, 4)
        self.assertEqual(len(found), 4)

    def test_a_table_that_breaks_a_rule(self):
        found = []
        board = Board({A: (1, 2), B: (1, 2), C: (1, 2)}, [Less(A, B)])
        lay(board, (C,), {A: 2, B: 1}, found, None)
        lay(board, (C,), {A: 0, B: 1}, found, None)
        self.assertEqual(found, [])


class TestFits(unittest.TestCase):
    def test_rules_of_a_square_alone(self):
        board = Board({A: (1, 2), B: (1, 2), C: (1, 2)}, [Less(A, B), Unlike((B, C))])
        table = {A: 2, B: 1, C: 2}
        self.assertIs(fits(board, C, table), True)
        self.assertIs(fits(board, A, table), False)
        self.assertIs(fits(board, B, table), False)
        self.assertIs(fits(board, B, {}), True)
        self.assertIs(fits(board, A, {A: 2}), True)
        self.assertIs(fits(board, B, {A: 1, B: 2, C: 2}), False)
        self.assertEqual(table, {A: 2, B: 1, C: 2})


class TestWhatAllHave(unittest.TestCase):
    def test_first(self):
        self.assertEqual(first(ONE), {A: 1, B: 2, C: 3})
        self.assertEqual(first(latin(2)), {(0, 0): 1, (0, 1): 2, (1, 0): 2, (1, 1): 1})
        self.assertRaises(NoWay, first, NONE)

    def test_sure(self):
        self.assertRaises(NoWay, sure, NONE)
        self.assertEqual(sure(ONE), {A: 1, B: 2, C: 3})
        self.assertEqual(sure(latin(2)), {})
        self.assertEqual(sure(latin(3).given({A: 1, B: 2})), {A: 1, B: 2, C: 3})

    def test_against_all_tables(self):
        for board in boards():
            due = brute.all_solutions(board)
            spots = board.all_spots()
            some = {spot: tuple(sorted({row[spot] for row in due})) for spot in spots}
            self.assertEqual(possible(board), some)
            self.assertEqual(list(possible(board)), list(spots))
            if due:
                self.assertEqual(first(board), due[0])
                self.assertEqual(sure(board), {spot: some[spot][0] for spot in spots if len(some[spot]) == 1})
                self.assertEqual(list(sure(board)), sorted(sure(board)))
            for spot in spots:
                pairs = tuple((value, sum(row[spot] == value for row in due)) for value in some[spot])
                self.assertEqual(chances(board, spot), (pairs, len(due)))

    def test_none(self):
        self.assertEqual(possible(NONE), {A: (), B: (), C: ()})
        self.assertEqual(chances(NONE, A), ((), 0))
        self.assertEqual((how_many(NONE), is_unique(NONE)), (0, False))


if __name__ == "__main__":
    unittest.main()
