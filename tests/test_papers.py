"""Point 7: papers that a board has one solution, or none, and what no paper may show."""

import unittest

import brute
from boards_to_try import boards
from cluewright.boards import Board, boxed, latin
from cluewright.errors import BadPaper, BadRule, BadSquare, BadStep, GridFault, NoWay
from cluewright.papers import (check_none, check_paper, check_unique, choice_free, depth_of, first_open, less, narrowed,
                               paper_for, size_of, solved, with_value)
from cluewright.rules import Less, Unlike
from cluewright.search import solutions
from cluewright.squares import row_of
from cluewright.steps import is_closed, is_done, steps

A, B, C = (0, 0), (0, 1), (0, 2)
NONE = Board({A: (1, 2), B: (1, 2), C: (1, 2)}, [Unlike(row_of(0, 3))])
LOOP = Board({A: (1, 2, 3), B: (1, 2, 3), C: (1, 2, 3)}, [Unlike((A, B)), Unlike((B, C)), Unlike((A, C)), Less(A, B)])


def rows_of(tables):
    return sorted(tuple(sorted(table.items())) for table in tables)


class TestPaper(unittest.TestCase):
    def check_whole(self, board, paper):
        """Check a paper's form against point 7, and return its solutions in its order."""
        rows, branch = paper
        self.assertIsInstance(paper, tuple)
        due, values = steps(board)
        self.assertEqual(rows, due)
        if is_closed(values) or is_done(values):
            self.assertEqual(branch, ())
            table = {spot: row[0] for spot, row in values.items() if row}
            return [table] if is_done(values) and board.keeps(table) else []
        few = min(len(row) for row in values.values() if len(row) > 1)
        spot = min(one for one in values if len(values[one]) == few)
        self.assertEqual(branch[:2], (spot, min(values[spot])))
        having = Board({**values, spot: values[spot][:1]}, board.rules)
        lacking = Board({**values, spot: values[spot][1:]}, board.rules)
        return self.check_whole(having, branch[2]) + self.check_whole(lacking, branch[3])

    def test_all_solutions_and_no_other(self):
        for board in boards():
            paper = paper_for(board)
            due = brute.all_solutions(board)
            found = check_paper(board, paper)
            self.assertIsInstance(found, tuple)
            self.assertEqual(list(found), self.check_whole(board, paper))
            self.assertEqual(rows_of(found), rows_of(due))
            self.assertIs(choice_free(board), paper[1] == ())

    def test_one_none_and_many(self):
        for board in boards():
            paper = paper_for(board)
            due = brute.all_solutions(board)
            if len(due) == 1:
                self.assertEqual(check_unique(board, paper), due[0])
                self.assertEqual(solved(board), due[0])
            else:
                self.assertRaises(BadPaper, check_unique, board, paper)
                self.assertRaises(NoWay, solved, board)
            if due:
                self.assertRaises(BadPaper, check_none, board, paper)
            else:
                self.assertIs(check_none(board, paper), True)

    def test_many_are_not_all_gone_through(self):
        self.assertRaises(NoWay, solved, boxed(3, 3))

    def test_hard_board(self):
        self.assertEqual(solved(LOOP.given({C: 3})), {A: 1, B: 2, C: 3})

    def test_sizes(self):
        end = ((), ())
        self.assertEqual((size_of(end), depth_of(end)), ((0, 0), 0))
        paper = (((0, A, 1),), (B, 1, (((0, C, 1), (0, C, 2)), ()), ((), (C, 1, end, end))))
        self.assertEqual((size_of(paper), depth_of(paper)), ((3, 2), 2))
        for branch in ((A, 1, paper, end), (A, 1, end, paper)):
            self.assertEqual((size_of(((), branch)), depth_of(((), branch))), ((3, 3), 3))
        self.assertEqual(size_of(paper_for(latin(2))), (6, 1))
        self.assertEqual(depth_of(paper_for(latin(2))), 1)
        self.assertEqual(size_of(paper_for(latin(3)))[1], 11)


class TestChanged(unittest.TestCase):
    def papers(self):
        for board in boards():
            yield board, paper_for(board)

    def changes(self, paper):
        """Tell papers with one step, choice or end changed, taken out or put in."""
        rows, branch = paper
        for at, (place, spot, value) in enumerate(rows):
            yield (rows[:at] + rows[at + 1:], branch)
            for one in ((place + 1, spot, value), (place - 1, spot, value), (place, spot, value + 1),
                        (place, (spot[0], spot[1] + 1), value)):
                yield (rows[:at] + (one,) + rows[at + 1:], branch)
        if branch == ():
            yield (rows, (A, 1, ((), ()), ((), ())))
            return
        spot, value, having, lacking = branch
        yield (rows, ())
        for one in ((spot, value + 1, having, lacking), (spot, value + 9, having, lacking),
                    ((9, 9), value, having, lacking), (spot, value, lacking, having), (spot, value, having, having),
                    (spot, value, lacking, lacking)):
            yield (rows, one)
        for one in self.changes(having):
            yield (rows, (spot, value, one, lacking))
        for one in self.changes(lacking):
            yield (rows, (spot, value, having, one))

    def test_a_changed_paper_is_refused_or_right(self):
        refused = 0
        for board, paper in self.papers():
            due = rows_of(brute.all_solutions(board))
            if size_of(paper)[1] > 6:
                continue
            for one in self.changes(paper):
                try:
                    self.assertEqual(rows_of(check_paper(board, one)), due)
                except (BadPaper, BadStep):
                    refused = refused + 1
        self.assertGreater(refused, 500)

    def test_a_step_that_does_not_follow(self):
        self.assertRaises(BadStep, check_paper, latin(2), (((0, A, 1),), ()))
        self.assertRaises(BadStep, check_unique, latin(2), (((0, A, 1),), ()))
        self.assertRaises(BadStep, check_none, latin(2), (((9, A, 1),), ()))

    def test_goes_on_where_none_is_left(self):
        rows, branch = paper_for(NONE)
        self.assertEqual(branch, ())
        end = ((), ())
        self.assertRaises(BadPaper, check_paper, NONE, (rows, (B, 1, end, end)))
        self.assertRaises(BadPaper, check_none, NONE, (rows, (B, 1, end, end)))

    def test_goes_on_where_all_are_told(self):
        board = latin(2).given({A: 1})
        rows = paper_for(board)[0]
        self.assertRaises(BadPaper, check_paper, board, (rows, (A, 1, ((), ()), ((), ()))))

    def test_not_ended(self):
        self.assertRaises(BadPaper, check_paper, latin(2), ((), ()))
        self.assertRaises(BadPaper, check_none, latin(2), ((), ()))
        board = latin(2).given({A: 1})
        self.assertRaises(BadPaper, check_unique, board, (paper_for(board)[0][:-1], ()))

    def test_no_choice(self):
        having, lacking = paper_for(latin(2))[1][2:]
        for spot, value in (((2, 2), 1), (A, 3), (A, 0)):
            self.assertRaises(BadPaper, check_paper, latin(2), ((), (spot, value, having, lacking)))
        self.assertRaises(BadPaper, check_paper, latin(2), ((), (A, 1, having)))
        board = Board({A: (1,), B: (1, 2)}, [])
        end = ((), ())
        self.assertRaises(BadPaper, check_paper, board, ((), (A, 1, end, end)))
        self.assertEqual(check_paper(board, ((), (B, 2, end, end))), ({A: 1, B: 2}, {A: 1, B: 1}))

    def test_an_end_that_keeps_not_all(self):
        board = Board({A: (2,), B: (1,)}, [Less(A, B)])
        self.assertEqual(check_paper(board, ((), ())), ())
        self.assertIs(check_none(board, ((), ())), True)
        self.assertRaises(BadPaper, check_unique, board, ((), ()))

    def test_refused_changes_nothing(self):
        board = latin(2)
        paper = ((), (A, 1, ((), ()), ((), ())))
        self.assertRaises(GridFault, check_paper, board, paper)
        self.assertEqual(board.shown(), latin(2).shown())
        self.assertEqual(paper, ((), (A, 1, ((), ()), ((), ()))))


class TestChoices(unittest.TestCase):
    def test_first_open(self):
        self.assertEqual(first_open({A: (1, 2, 3), B: (1,), C: (1, 2), (1, 0): (3, 4)}), C)
        self.assertEqual(first_open({(1, 0): (3, 4), C: (1, 2)}), C)
        self.assertEqual(first_open({A: (1, 2, 3), B: ()}), A)
        self.assertIsNone(first_open({A: (1,)}))

    def test_both_boards(self):
        board = latin(2)
        values = {**board.options, B: (2,)}
        self.assertEqual(with_value(board, values, A, 1).options, {**values, A: (1,)})
        self.assertEqual(less(board, values, A, 1).options, {**values, A: (2,)})
        self.assertEqual(with_value(board, values, A, 1).rules, board.rules)
        self.assertEqual(less(board, values, A, 1).rules, board.rules)
        self.assertEqual(values, {**board.options, B: (2,)})
        self.assertRaises(BadSquare, less, board, values, B, 2)
        self.assertRaises(BadSquare, with_value, board, {**values, B: ()}, A, 1)
        self.assertRaises(BadRule, with_value, board, {A: (1, 2)}, A, 1)
        self.assertRaises(BadRule, less, board, {A: (1, 2)}, A, 1)

    def test_choice_free(self):
        self.assertIs(choice_free(latin(1)), True)
        self.assertIs(choice_free(latin(2)), False)
        self.assertIs(choice_free(latin(2).given({A: 1})), True)
        self.assertIs(choice_free(NONE), True)


class TestNarrowed(unittest.TestCase):
    def test_the_tables_numbers_alone(self):
        board = latin(3)
        table = {B: [3, 1], (2, 2): (2,)}
        found = narrowed(board, table)
        self.assertEqual(found.options, {**board.options, B: (1, 3), (2, 2): (2,)})
        self.assertEqual(found.rules, board.rules)
        self.assertEqual(table, {B: [3, 1], (2, 2): (2,)})
        self.assertEqual(board.options, latin(3).options)
        self.assertEqual(narrowed(board, {}).options, board.options)

    def test_refused(self):
        self.assertRaises(BadSquare, narrowed, latin(3), {(3, 3): (1,)})
        self.assertRaises(BadSquare, narrowed, latin(3), {A: ()})
        self.assertRaises(BadSquare, narrowed, latin(3), {A: (1,), (0, 9): (1,)})

    def test_by_what_steps_leave(self):
        for board in boards():
            values = steps(board)[1]
            if not is_closed(values):
                self.assertEqual(solutions(narrowed(board, values)), solutions(board))


if __name__ == "__main__":
    unittest.main()
