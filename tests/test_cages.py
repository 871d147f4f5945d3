"""Point 21, and points 3 and 20 where they speak of cages: deeds, cages as rules, boards of cages, their goals."""

import unittest
from itertools import combinations_with_replacement, product

import brute
from boards_to_try import cage_boards
from cluewright import cages
from cluewright.boards import Board, latin
from cluewright.cages import DEEDS, Cage, cage_board, cages_of, goals_of, made_by, rows_that_make
from cluewright.errors import BadRule, BadSize, BadSquare, BadText
from cluewright.papers import check_unique, paper_for, solved
from cluewright.rules import Less, kept
from cluewright.search import solutions
from cluewright.squares import row_of
from cluewright.steps import check_steps, follows, row_by_row, steps

A, B, C = (0, 0), (0, 1), (0, 2)
PAIR = (A, B)
ROW = (A, B, C)
ROWS = ("aab", "ccb", "dde")
GOALS = {"a": (2, "-"), "b": (6, "x"), "c": (3, "+"), "d": (3, "/"), "e": (2, "+")}


class TestMadeBy(unittest.TestCase):
    def test_deeds(self):
        self.assertEqual(DEEDS, "+-x/")

    def test_all_rows_of_numbers(self):
        for many in (1, 2, 3, 4):
            for row in product(range(7 if many < 4 else 5), repeat=many):
                for deed in DEEDS:
                    self.assertEqual(made_by(row, deed), brute.makes(row, deed), (row, deed))
                    self.assertEqual(made_by(list(row), deed), made_by(row, deed))

    def test_known_ones(self):
        for row, deed, due in (((2, 3), "+", 5), ((2, 3), "-", 1), ((3, 2), "-", 1), ((2, 3), "x", 6),
                               ((2, 6), "/", 3), ((6, 2), "/", 3), ((2, 3), "/", None), ((5, 1, 2), "-", 2),
                               ((2, 3, 1), "-", 0), ((3, 2, 2), "-", -1), ((1, 12, 2, 3), "/", 2),
                               ((12, 5, 2), "/", None), ((0, 4), "/", None), ((0, 0), "/", None), ((0, 4), "x", 0),
                               ((2, 2), "/", 1), ((3, 3), "-", 0)):
            self.assertEqual(made_by(row, deed), due, (row, deed))

    def test_one_number(self):
        for deed in DEEDS:
            for number in (0, 1, 7):
                self.assertEqual(made_by((number,), deed), number)

    def test_none(self):
        for deed in DEEDS:
            self.assertRaises(BadRule, made_by, (), deed)
            self.assertRaises(BadRule, made_by, [], deed)

    def test_product(self):
        for row, due in (((), 1), ((5,), 5), ((2, 3, 4), 24), ([2, 0, 4], 0)):
            self.assertEqual(cages.product(row), due)


class TestCage(unittest.TestCase):
    def may(self, rule, good, bad):
        for row in good:
            self.assertIs(rule.may(row), True, row)
            self.assertIs(rule.may(list(row)), True, row)
        for row in bad:
            self.assertIs(rule.may(row), False, row)

    def test_shown_and_fields(self):
        cage = Cage([B, A], 6, "x")
        self.assertEqual(cage.shown(), ("cage", (B, A), 6, "x"))
        self.assertEqual((cage.spots, cage.whole, cage.deed), ((B, A), 6, "x"))
        self.assertIsInstance(cage.spots, tuple)
        self.assertEqual(Cage((C,), -4, "-").shown(), ("cage", (C,), -4, "-"))

    def test_refused(self):
        for deed in ("", "*", "+-", "+-x/", "X", "++", " "):
            self.assertRaises(BadRule, Cage, PAIR, 3, deed)
        for spots in ((), [], (A, A)):
            for deed in DEEDS:
                self.assertRaises(BadRule, Cage, spots, 3, deed)
        self.assertRaises(BadRule, Cage((A,), 3, "+").may, ())

    def test_all_known_is_as_told(self):
        for deed in DEEDS:
            for whole in range(-3, 10):
                for spots in ((A,), PAIR, ROW):
                    rule = Cage(spots, whole, deed)
                    for row in product(range(5), repeat=len(spots)):
                        due = brute.holds(rule.shown(), row)
                        self.assertIs(rule.may(row), due, (rule.shown(), row))
                        self.assertIs(kept(rule, dict(zip(spots, row))), due)

    def test_some_known(self):
        for deed in DEEDS:
            for whole in range(-2, 8):
                rule = Cage(ROW, whole, deed)
                for row in product((None, 0, 1, 2, 3, 4), repeat=3):
                    known = [value for value in row if value is not None]
                    if None in row:
                        due = True
                        if deed == "+":
                            due = sum(known) <= whole
                        if deed == "x" and whole > 0:
                            due = any(cages.product(known) * more == whole for more in range(whole + 1))
                        self.assertIs(rule.may(row), due, (rule.shown(), row))
                        self.assertIs(kept(rule, {}), False)

    def test_what_can_go_on_may(self):
        for deed in DEEDS:
            for whole in range(-2, 8):
                rule = Cage(ROW, whole, deed)
                for row in product((None, 0, 1, 2, 3), repeat=3):
                    ways = product(*[range(4) if value is None else (value,) for value in row])
                    if any(brute.makes(way, deed) == whole for way in ways):
                        self.assertIs(rule.may(row), True, (rule.shown(), row))

    def test_each_deed(self):
        self.may(Cage(ROW, 5, "+"), [(None, None, None), (5, None, None), (1, None, 4), (1, 2, 2)],
                 [(6, None, None), (3, 3, None), (1, 1, 1)])
        self.may(Cage(ROW, 6, "x"), [(None, None, None), (1, None, 3), (6, None, None), (1, 2, 3), (2, 3, None)],
                 [(4, None, None), (0, None, None), (None, 2, 2), (1, 1, 1), (None, 3, 3)])
        self.may(Cage(ROW, 0, "x"), [(0, None, None), (4, 5, None), (4, 0, 5)], [(1, 2, 3)])
        self.may(Cage(ROW, -6, "x"), [(4, None, None), (0, 1, None)], [(1, 2, 3), (0, 0, 0)])
        self.may(Cage(PAIR, 1, "-"), [(None, None), (9, None), (None, 0), (1, 2), (2, 1)], [(2, 2), (1, 3)])
        self.may(Cage(ROW, -1, "-"), [(3, None, None), (2, 2, 1), (3, 2, 2)], [(4, 2, 1), (1, 2, 3)])
        self.may(Cage(PAIR, 2, "/"), [(None, None), (0, None), (5, None), (1, 2), (6, 3)], [(2, 2), (0, 0), (5, 2)])
        self.may(Cage(ROW, 2, "/"), [(5, 7, None), (1, 2, 1), (3, 1, 6), (2, 8, 2)], [(4, 2, 2), (1, 0, 2), (5, 2, 1)])
        self.may(Cage((A,), 4, "/"), [(None,), (4,)], [(3,), (0,)])

    def test_handed_in_stays(self):
        spots, row = [A, B, C], [1, None, 2]
        for deed in DEEDS:
            Cage(spots, 6, deed).may(row)
            made_by([2, 1, 3], deed)
        self.assertEqual((spots, row), ([A, B, C], [1, None, 2]))


class TestCageAsARule(unittest.TestCase):
    def test_what_it_leaves_out_no_way_has(self):
        lots = [(1, 2), (0, 1, 3), (2, 3, 4), (1,), (0,), (0, 4, 6)]
        for deed in DEEDS:
            for whole in (-1, 0, 1, 2, 3, 6, 8):
                for row in product(lots, repeat=3):
                    values = dict(zip(ROW, row))
                    rule = Cage(ROW, whole, deed)
                    self.assertEqual(follows(values, rule), brute.left_out(values, rule), (rule.shown(), row))

    def test_ways_that_begin_with_a_row(self):
        values = {A: (0, 1, 2), B: (1, 2, 4), C: (1, 2)}
        for deed in DEEDS:
            for whole in (0, 1, 2, 4):
                rule = Cage(ROW, whole, deed)
                for row in ((), (1,), (2, 1), (0, 4)):
                    ways = [way for way in brute.all_ways(values, rule) if way[:len(row)] == row]
                    good = {}
                    row_by_row(values, rule, row, good)
                    self.assertEqual(set(good), {pair for way in ways for pair in zip(ROW, way)})

    def test_many_squares(self):
        row = row_of(0, 9)
        values = {spot: tuple(range(1, 10)) for spot in row}
        pairs = tuple((spot, value) for spot in row for value in range(1, 10))
        self.assertEqual(follows(values, Cage(row, 9, "+")), tuple(pair for pair in pairs if pair[1] > 1))
        self.assertEqual(follows(values, Cage(row, 7, "x")), tuple(pair for pair in pairs if pair[1] not in (1, 7)))
        self.assertEqual(follows(values, Cage(row, 2, "-")), pairs)
        self.assertEqual(follows(values, Cage(row, 1, "-")), tuple(pair for pair in pairs if pair[1] not in (1, 9)))
        self.assertEqual(follows(values, Cage(row, 9, "/")), tuple(pair for pair in pairs if pair[1] not in (1, 9)))

    def test_the_rules_own_order(self):
        self.assertEqual(follows({A: (1, 2), B: (1, 3)}, Cage((B, A), 2, "+")), ((B, 3), (A, 2)))

    def test_a_board_with_cages(self):
        board = Board({A: (1, 2, 3), B: (1, 2, 3)}, [Less(A, B), Cage(PAIR, 3, "/")])
        self.assertEqual(solutions(board), ({A: 1, B: 3},))
        found, values = steps(board)
        self.assertEqual(found, ((0, A, 3), (0, B, 1), (1, A, 2), (1, B, 2)))
        self.assertEqual(check_steps(board, found), values)
        self.assertEqual(board.shown()[1], (("less", PAIR), ("cage", PAIR, 3, "/")))
        self.assertIs(board.may({A: 1}), True)
        self.assertIs(board.keeps({A: 1, B: 3}), True)
        self.assertIs(board.keeps({A: 2, B: 3}), False)
        self.assertEqual(check_unique(board, paper_for(board)), {A: 1, B: 3})

    def test_a_square_that_is_not_there(self):
        self.assertRaises(BadRule, latin, 1, [Cage(PAIR, 3, "+")])

    def test_boards_thrown_have_one_none_and_many(self):
        many = {min(2, len(brute.all_solutions(board))) for board in cage_boards()}
        self.assertEqual(many, {0, 1, 2})


class TestCagesOf(unittest.TestCase):
    def test_in_order_of_letters(self):
        found = cages_of(("ba", "bb"), {"b": (4, "+"), "a": (2, "-")})
        self.assertIsInstance(found, tuple)
        self.assertEqual([cage.shown() for cage in found],
                         [("cage", (B,), 2, "-"), ("cage", (A, (1, 0), (1, 1)), 4, "+")])
        self.assertEqual([cage.shown()[1:] for cage in cages_of(list(ROWS), GOALS)],
                         [((A, B), 2, "-"), ((C, (1, 2)), 6, "x"), (((1, 0), (1, 1)), 3, "+"),
                          (((2, 0), (2, 1)), 3, "/"), (((2, 2),), 2, "+")])

    def test_refused(self):
        for goals in ({}, {"a": (1, "+")}, {"a": (1, "+"), "c": (1, "+")},
                      {"a": (1, "+"), "b": (1, "+"), "c": (1, "+")}):
            self.assertRaises(BadRule, cages_of, ("ab", "ba"), goals)
        self.assertRaises(BadRule, cages_of, ("ab", "ba"), {"a": (1, "+"), "b": (1, "?")})
        for rows in ((), [], ("",), ("ab", "a")):
            self.assertRaises(BadText, cages_of, rows, {"z": (1, "?")})
            self.assertRaises(BadText, cage_board, rows, {"z": (1, "?")})
            self.assertRaises(BadText, goals_of, rows, {}, "+")

    def test_board(self):
        board = cage_board(ROWS, GOALS)
        self.assertEqual(board.shown(), latin(3, cages_of(ROWS, GOALS)).shown())
        self.assertEqual(list(solutions(board)), brute.all_solutions(board))
        self.assertEqual(solved(cage_board(("ab", "ab"), {"a": (2, "/"), "b": (3, "+")}).given({A: 2})),
                         {A: 2, B: 1, (1, 0): 1, (1, 1): 2})
        self.assertEqual(len(board.rules), 6 + 5)

    def test_board_that_is_not_square(self):
        self.assertRaises(BadSize, cage_board, ("aa",), {"a": (3, "+")})
        self.assertRaises(BadSize, cage_board, ("a", "b", "b"), {"a": (3, "+"), "b": (3, "x")})
        self.assertRaises(BadRule, cage_board, ("aa",), {"b": (3, "+")})
        self.assertRaises(BadRule, cage_board, ("aa",), {"a": (3, "")})

    def test_board_that_is_too_great(self):
        self.assertRaises(BadSquare, cage_board, ("a" * 10,) * 10, {"a": (3, "+")})
        self.assertRaises(BadRule, cage_board, ("a" * 10,) * 10, {"a": (3, "#")})

    def test_handed_in_stays(self):
        rows, goals = list(ROWS), dict(GOALS)
        cages_of(rows, goals)
        cage_board(rows, goals)
        self.assertEqual((rows, goals), (list(ROWS), GOALS))


class TestGoals(unittest.TestCase):
    TABLE = {(y, x): number for y, row in enumerate(((3, 1, 2), (1, 2, 3), (2, 3, 1))) for x, number in enumerate(row)}

    def test_the_first_deed_that_can(self):
        self.assertEqual(goals_of(ROWS, self.TABLE, "/-x+"),
                         {"a": (3, "/"), "b": (1, "-"), "c": (2, "/"), "d": (1, "-"), "e": (1, "/")})
        self.assertEqual(goals_of(list(ROWS), self.TABLE, ["x", "+"]),
                         {"a": (3, "x"), "b": (6, "x"), "c": (2, "x"), "d": (6, "x"), "e": (1, "x")})
        self.assertEqual(list(goals_of(("ba",), {A: 2, B: 1}, "+")), ["a", "b"])

    def test_below_nought_is_passed_over(self):
        table = {A: 3, B: 2, C: 2}
        self.assertEqual(goals_of(("aaa",), table, "-+"), {"a": (7, "+")})
        self.assertEqual(goals_of(("aaa",), {A: 3, B: 2, C: 1}, "-+"), {"a": (0, "-")})
        self.assertEqual(goals_of(("aa",), {A: 0, B: 0}, "/x"), {"a": (0, "x")})

    def test_none(self):
        self.assertRaises(BadRule, goals_of, ("aaa",), {A: 3, B: 2, C: 2}, "-/")
        self.assertRaises(BadRule, goals_of, ("ab",), {A: 3, B: 2}, "")
        self.assertRaises(BadRule, goals_of, ("ab",), {A: 3, B: 2}, [])

    def test_they_are_kept(self):
        for deeds in ("+", "x", "-+", "/-x", "/+"):
            board = cage_board(ROWS, goals_of(ROWS, self.TABLE, deeds))
            self.assertIs(board.keeps(self.TABLE), True)


class TestRowsThatMake(unittest.TestCase):
    def test_all_rows_for_each_deed(self):
        for numbers in ((1, 2, 3, 4, 5, 6), (0, 1, 2), (2, 3), ()):
            for many in (1, 2, 3):
                for whole in range(-4, 13):
                    for deed in DEEDS:
                        due = [row for row in combinations_with_replacement(numbers, many)
                               if brute.makes(row, deed) == whole]
                        self.assertEqual(rows_that_make(many, whole, deed, numbers), tuple(due))

    def test_known_ones(self):
        self.assertEqual(rows_that_make(2, 4, "+", [3, 1, 2]), ((1, 3), (2, 2)))
        self.assertEqual(rows_that_make(3, 6, "x", range_of(1, 6)), ((1, 1, 6), (1, 2, 3)))
        self.assertEqual(rows_that_make(2, 2, "/", range_of(1, 4)), ((1, 2), (2, 4)))
        self.assertEqual(rows_that_make(1, 3, "-", range_of(1, 4)), ((3,),))

    def test_no_numbers_at_all(self):
        for deed in DEEDS:
            self.assertRaises(BadRule, rows_that_make, 0, 0, deed, (1, 2))


def range_of(low, high):
    return tuple(range(low, high + 1))


if __name__ == "__main__":
    unittest.main()
