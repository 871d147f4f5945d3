"""Point 6: steps, each of which leaves out only what is in no solution, checked one by one."""

import unittest
from itertools import product

import brute
from boards_to_try import boards
from cluewright.boards import Board, boxed, latin
from cluewright.errors import BadStep
from cluewright.rules import Count, Gap, Less, Runs, Sum, Tops, Unlike
from cluewright.squares import read, row_of
from cluewright.steps import (check_steps, follows, hardness, is_closed, is_done, next_step, only_places, row_by_row,
                              steps, taken, told_step)

A, B, C = (0, 0), (0, 1), (0, 2)


class TestFollows(unittest.TestCase):
    def test_against_all_ways(self):
        for board in boards():
            for rule in board.rules:
                self.assertEqual(follows(board.options, rule), brute.left_out(board.options, rule), rule.shown())

    def test_in_the_rules_own_order(self):
        values = {A: (1, 2), B: (1, 2)}
        self.assertEqual(follows(values, Less(B, A)), ((B, 2), (A, 1)))
        self.assertEqual(follows(values, Less(A, B)), ((A, 2), (B, 1)))
        self.assertEqual(follows({A: [3, 1], B: [0]}, Less(A, B)), ((A, 1), (A, 3), (B, 0)))

    def test_no_way_leaves_out_all(self):
        self.assertEqual(follows({A: (2, 3), B: (2,)}, Gap(A, B, 5)), ((A, 2), (A, 3), (B, 2)))
        self.assertEqual(follows({A: (), B: (2, 3)}, Less(A, B)), ((B, 2), (B, 3)))

    def test_unlike_against_all_ways(self):
        rule = Unlike(row_of(0, 4))
        rows = [(1,), (1, 2), (2, 3), (1, 2, 3), (1, 2, 3, 4), ()]
        for lot in product(rows, repeat=4):
            values = dict(zip(rule.spots, lot))
            self.assertEqual(follows(values, rule), brute.left_out(values, rule), lot)

    def test_nine_unlike_squares(self):
        rule = Unlike(row_of(0, 9))
        values = {spot: tuple(range(1, 10)) for spot in rule.spots}
        self.assertEqual(follows(values, rule), ())
        for spot in rule.spots[6:]:
            values[spot] = (1, 2, 3)
        due = tuple((spot, value) for spot in rule.spots[:6] for value in (1, 2, 3))
        self.assertEqual(follows(values, rule), due)

    def test_nine_squares_of_other_rules(self):
        row = row_of(0, 9)
        values = {spot: tuple(range(1, 10)) for spot in row}
        bits = {spot: (0, 1) for spot in row}
        pairs = tuple((spot, value) for spot in row for value in range(1, 10))
        self.assertEqual(follows(values, Sum(row, 45)), ())
        self.assertEqual(follows(values, Sum(row, 11)), tuple(pair for pair in pairs if pair[1] > 3))
        self.assertEqual(follows(values, Tops(row, 9)), tuple(pair for pair in pairs if pair[1] != pair[0][1] + 1))
        self.assertEqual(follows(values, Tops(row, 2)), ((row[0], 9),))
        self.assertEqual(follows(values, Tops(row, 10)), pairs)
        self.assertEqual(follows(bits, Runs(row, (4, 4))), tuple((spot, spot[1] == 4) for spot in row))
        self.assertEqual(follows(bits, Count(row, 1, 9)), tuple((spot, 0) for spot in row))

    def test_handed_in_stays(self):
        values = {A: (1, 2), B: (1, 2), C: (3,)}
        for rule in (Unlike((A, B, C)), Sum((A, B, C), 6), Count((A, B), 1, 1)):
            follows(values, rule)
            next_step(values, [rule])
            self.assertEqual(values, {A: (1, 2), B: (1, 2), C: (3,)})


class TestRowByRow(unittest.TestCase):
    def test_ways_that_begin_with_a_row(self):
        for board in boards():
            for rule in board.rules:
                ways = brute.all_ways(board.options, rule)
                rows = [()] + [(value,) for value in board.options[rule.spots[0]]] + ways[:3]
                for row in rows:
                    due = {pair for way in ways if way[:len(row)] == row for pair in zip(rule.spots, way)}
                    good = {}
                    self.assertIsNone(row_by_row(board.options, rule, row, good))
                    self.assertEqual(good, {pair: True for pair in due})
                    good = {}
                    row_by_row(board.options, rule, list(row), good)
                    self.assertEqual(set(good), due)

    def test_what_is_marked_stays_marked(self):
        rule = Sum((A, B), 3)
        good = {(A, 1): True, (C, 9): True}
        row_by_row({A: (1, 2), B: (1, 2)}, rule, (2,), good)
        self.assertEqual(sorted(good), [(A, 1), (A, 2), (B, 1), (C, 9)])


class TestSteps(unittest.TestCase):
    def test_against_steps_found_anew(self):
        for board in boards():
            due = brute.steps_told(board)
            found = steps(board)
            self.assertEqual(found, due)
            self.assertIsInstance(found, tuple)
            self.assertIsInstance(found[0], tuple)
            self.assertEqual(list(found[1]), list(board.all_spots()))

    def test_only_what_is_in_no_solution(self):
        for board in boards():
            due = brute.all_solutions(board)
            for _, spot, value in steps(board)[0]:
                self.assertFalse([table for table in due if table[spot] == value])
            if due:
                self.assertIs(is_closed(steps(board)[1]), False)

    def test_next_step(self):
        values = {A: (1, 2), B: (1, 2), C: (1, 2, 3)}
        rules = (Sum((A, B), 3), Less(B, C), Unlike((A, B, C)))
        self.assertEqual(next_step(values, rules), (1, C, 1))
        self.assertEqual(next_step({**values, C: (2, 3)}, rules), (2, C, 2))
        self.assertIsNone(next_step({**values, C: (3,)}, rules))
        self.assertIsNone(next_step(values, ()))
        self.assertEqual(next_step(values, [Tops((C, B, A), 3)]), (0, C, 1))

    def test_nothing_follows(self):
        self.assertEqual(steps(latin(4)), ((), latin(4).options))
        board = latin(3)
        steps(board)[1][A] = ()
        self.assertEqual(board.options[A], (1, 2, 3))

    def test_none_left(self):
        board = Board({A: (1, 2), B: (1,), C: (5,)}, [Less(A, B), Less(B, C)])
        self.assertEqual(steps(board), (((0, A, 1), (0, A, 2)), {A: (), B: (1,), C: (5,)}))

    def test_taken(self):
        values = {A: (1, 2), B: (1, 2)}
        self.assertEqual(taken(values, (0, A, 1)), {A: (2,), B: (1, 2)})
        self.assertEqual(taken(taken(values, (0, A, 1)), (3, A, 2)), {A: (), B: (1, 2)})
        self.assertEqual(values, {A: (1, 2), B: (1, 2)})


class TestCheckSteps(unittest.TestCase):
    def test_what_is_found_is_checked(self):
        for board in boards():
            rows, values = steps(board)
            self.assertEqual(check_steps(board, rows), values)
            self.assertEqual(check_steps(board, list(rows)), values)
            self.assertEqual(check_steps(board, ()), board.options)

    def test_another_order_of_steps(self):
        board = Board({A: (1, 2, 3), B: (1, 2, 3)}, [Less(A, B)])
        self.assertEqual(steps(board)[0], ((0, A, 3), (0, B, 1)))
        self.assertEqual(check_steps(board, ((0, B, 1), (0, A, 3))), {A: (1, 2), B: (2, 3)})

    def test_a_step_changed(self):
        for board in boards():
            rows = steps(board)[0]
            for at, (place, spot, value) in enumerate(rows):
                left = check_steps(board, rows[:at])
                for one in [(place, spot, value + 9), (-1, spot, value), (len(board.rules), spot, value),
                            (place, (9, 9), value)]:
                    self.assertRaises(BadStep, check_steps, board, rows[:at] + (one,) + rows[at + 1:])
                for other, rule in enumerate(board.rules):
                    row = rows[:at] + ((other, spot, value),)
                    if (spot, value) in brute.left_out(left, rule):
                        self.assertEqual(len(check_steps(board, row)[spot]), len(left[spot]) - 1)
                    else:
                        self.assertRaises(BadStep, check_steps, board, row)

    def test_a_step_twice_or_too_soon(self):
        board = Board({A: (1, 2, 3), B: (1, 2, 3), C: (1, 2, 3)}, [Less(A, B), Less(B, C)])
        rows = steps(board)[0]
        self.assertRaises(BadStep, check_steps, board, rows[:1] + rows)
        late = [row for row in rows if row[:2] == (1, B)][-1]
        self.assertEqual(late, (1, B, 3))
        self.assertRaises(BadStep, check_steps, board, ((0, A, 2),) + rows)

    def test_of_what_is_in_a_solution(self):
        for place in range(6):
            self.assertRaises(BadStep, check_steps, latin(3), ((place, A, 1),))


class TestEnds(unittest.TestCase):
    def test_done_and_closed(self):
        self.assertIs(is_done({A: (1,), B: (2,)}), True)
        self.assertIs(is_done({A: (1,), B: (2, 3)}), False)
        self.assertIs(is_done({A: (1,), B: ()}), False)
        self.assertIs(is_closed({A: (1,), B: ()}), True)
        self.assertIs(is_closed({A: (1,), B: (2, 3)}), False)
        self.assertIs(is_done({}), True)
        self.assertIs(is_closed({}), False)

    def test_hardness(self):
        self.assertEqual(hardness(latin(3)), (0, False, 18))
        self.assertEqual(hardness(latin(1)), (0, True, 0))
        self.assertEqual(hardness(latin(2).given({A: 1})), (3, True, 0))
        self.assertEqual(hardness(Board({A: (1,), B: (1,), C: (1, 2)}, [Less(A, B)])), (1, False, 0))


class TestOnlyPlaces(unittest.TestCase):
    def test_one_square_alone(self):
        rule = Unlike((C, A, B))
        self.assertEqual(only_places({A: (1, 2), B: (1, 2), C: (1, 3)}, rule), ((C, 3),))
        self.assertEqual(only_places({A: (1, 3), B: (1, 2), C: (1,)}, rule), ((B, 2), (A, 3)))
        # A square that has nothing else is none of them.
        self.assertEqual(only_places({A: (1, 2), B: (1, 2), C: (3,)}, rule), ())

    def test_none(self):
        values = {A: (1, 2), B: (1, 2), C: (1, 3)}
        self.assertEqual(only_places(values, Sum((A, B, C), 6)), ())
        self.assertEqual(only_places(values, Unlike((A, C))), ())
        self.assertEqual(only_places({A: (1, 2), B: (1,), C: (1, 2)}, Unlike((A, B, C))), ())
        self.assertEqual(only_places({A: (1, 2), B: (1,), C: (1, 2)}, Less(A, B)), ())


class TestTold(unittest.TestCase):
    def test_words(self):
        self.assertEqual(told_step((2, (0, 1), 3)), "rule 2: not 3 at 0,1")
        self.assertEqual(told_step((0, (8, 0), 12)), "rule 0: not 12 at 8,0")


class TestNineByNine(unittest.TestCase):
    def test_steps_alone(self):
        rows = ("53..7....", "6..195...", ".98....6.", "8...6...3", "4..8.3..1", "7...2...6", ".6....28.", "...419..5",
                "....8..79")
        board = boxed(3, 3).given(read(rows))
        found, values = steps(board)
        self.assertEqual((len(found), is_done(values)), (sum(len(row) - 1 for row in board.options.values()), True))
        self.assertEqual(check_steps(board, found), values)


if __name__ == "__main__":
    unittest.main()
