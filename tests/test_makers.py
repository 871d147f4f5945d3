"""Point 8: clues of which none is too many, second solutions that show it, and the fewest clues."""

import unittest
from itertools import combinations

import brute
from boards_to_try import boards, known_boards
from cluewright.boards import Board, boxed, latin
from cluewright.errors import BadPaper, BadSize, BadStep, NoSuch, NoWay
from cluewright.makers import check_needed, clues_for, fewest, hits_all, made, others_for, quarrels
from cluewright.papers import check_unique, paper_for
from cluewright.rules import Less

A, B, C, D = (0, 0), (0, 1), (1, 0), (1, 1)
SQUARE = {A: 1, B: 2, C: 2, D: 1}


def keeping(tables, clues):
    return [table for table in tables if all(table[spot] == clues[spot] for spot in clues)]


def left_out_one_by_one(tables, table, order):
    clues = dict(table)
    for spot in order:
        fewer = {one: clues[one] for one in clues if one != spot}
        if len(keeping(tables, fewer)) == 1:
            clues = fewer
    return dict(sorted(clues.items()))


class TestClues(unittest.TestCase):
    def test_each_left_out_in_an_order(self):
        for board in boards():
            due = brute.all_solutions(board)
            for table in due[:2] + due[-1:]:
                spots = list(board.all_spots())
                for order in (spots, tuple(reversed(spots)), spots[1:] + spots[:1]):
                    found = clues_for(board, table, order)
                    self.assertEqual(list(found.items()), list(left_out_one_by_one(due, table, order).items()))

    def test_alone_and_none_too_many(self):
        board = latin(4)
        table = {(y, x): (y + x) % 4 + 1 for y, x in board.all_spots()}
        clues, paper, others = made(board, table, board.all_spots())
        self.assertEqual(check_unique(board.given(clues), paper), table)
        for spot in clues:
            second = others[spot]
            self.assertIs(board.keeps(second), True)
            self.assertEqual([one for one in clues if second[one] != clues[one]], [spot])

    def test_none_needed(self):
        self.assertEqual(clues_for(latin(1), {A: 1}, [A]), {})
        self.assertEqual(clues_for(latin(2), SQUARE, [A, B, C, D]), {D: 1})
        self.assertEqual(clues_for(latin(2), SQUARE, [D, C, B, A]), {A: 1})

    def test_refused(self):
        order = [A, B, C, D]
        for table in ({}, {A: 1}, {**SQUARE, A: 2}, {**SQUARE, A: 9}):
            self.assertRaises(BadSize, clues_for, latin(2), table, order)
            self.assertRaises(BadSize, made, latin(2), table, order)
        for bad in ([], [A, B, C], [A, B, C, D, D], [A, A, B, C], [A, B, C, (2, 2)]):
            self.assertRaises(BadSize, clues_for, latin(2), SQUARE, bad)
            self.assertRaises(BadSize, made, latin(2), SQUARE, bad)

    def test_handed_in_in_any_order(self):
        board = latin(3)
        table = {(y, x): (y + x) % 3 + 1 for y, x in board.all_spots()}
        turned = {spot: table[spot] for spot in reversed(board.all_spots())}
        order = board.all_spots()
        clues, paper, others = made(board, table, order)
        self.assertEqual(list(clues_for(board, turned, order).items()), list(clues.items()))
        self.assertEqual(list(fewest(board, turned).items()), list(fewest(board, table).items()))
        back = {spot: clues[spot] for spot in reversed(list(clues))}
        self.assertEqual(list(others_for(board, back)), list(clues))
        self.assertEqual(check_needed(board, back, paper, others), table)
        self.assertEqual(check_needed(board, clues, paper, {spot: others[spot] for spot in back}), table)

    def test_handed_in_stays(self):
        table, order = dict(SQUARE), [D, C, B, A]
        made(latin(2), table, order)
        fewest(latin(2), table)
        self.assertEqual((table, order), (SQUARE, [D, C, B, A]))


class TestOthers(unittest.TestCase):
    def test_the_first_second_solution(self):
        for board in boards():
            due = brute.all_solutions(board)
            for table in due[:1] + due[-1:]:
                for clues in (clues_for(board, table, board.all_spots()), table):
                    found = others_for(board, clues)
                    self.assertEqual(list(found), sorted(clues))
                    for spot in clues:
                        fewer = {one: clues[one] for one in clues if one != spot}
                        rest = [row for row in keeping(due, fewer) if row != table]
                        self.assertEqual(found[spot], rest[0] if rest else None)

    def test_a_clue_too_many(self):
        self.assertEqual(others_for(latin(2), {A: 1, D: 1}), {A: None, D: None})
        self.assertEqual(others_for(latin(2), {A: 1}), {A: {A: 2, B: 1, C: 1, D: 2}})
        self.assertEqual(others_for(latin(1), {}), {})

    def test_refused(self):
        self.assertRaises(NoWay, others_for, latin(2), {})
        self.assertRaises(NoWay, others_for, latin(2), {A: 1, B: 1})
        self.assertRaises(NoSuch, others_for, latin(2), {A: 3})
        self.assertRaises(NoSuch, others_for, latin(2), {(5, 5): 1})


class TestNeeded(unittest.TestCase):
    def setUp(self):
        self.board = latin(3)
        self.table = {(y, x): (y + x) % 3 + 1 for y, x in self.board.all_spots()}
        self.clues, self.paper, self.others = made(self.board, self.table, self.board.all_spots())

    def check(self, error, clues=None, paper=None, others=None):
        self.assertRaises(error, check_needed, self.board, clues or self.clues, paper or self.paper,
                          others or self.others)

    def test_shown(self):
        self.assertGreater(len(self.clues), 1)
        self.assertEqual(check_needed(self.board, self.clues, self.paper, self.others), self.table)

    def test_all_that_is_made_is_shown(self):
        for board in boards():
            for table in brute.all_solutions(board)[:1]:
                clues, paper, others = made(board, table, board.all_spots())
                self.assertEqual(check_needed(board, clues, paper, others), table)
                self.assertEqual(paper, paper_for(board.given(clues)))
                self.assertEqual(others, others_for(board, clues))

    def test_other_squares(self):
        spot = sorted(self.clues)[0]
        fewer = {one: self.others[one] for one in self.others if one != spot}
        self.check(BadPaper, others=fewer)
        self.check(BadPaper, others={**self.others, (9, 9): self.table})
        self.check(BadPaper, clues={**self.clues, (9, 9): 1})

    def test_not_needed(self):
        for spot in self.clues:
            broken = {**self.others[spot], spot: 4}
            part = {one: value for one, value in self.others[spot].items() if one != (2, 2)}
            for row in (None, self.table, broken, part, {}):
                self.check(BadPaper, others={**self.others, spot: row})

    def test_another_clue(self):
        one, other = sorted(self.clues)[:2]
        spots = [spot for spot in self.clues if self.others[one][spot] != self.clues[spot]]
        self.assertEqual(spots, [one])
        both = [row for row in brute.all_solutions(self.board)
                if row[one] != self.clues[one] and row[other] != self.clues[other]]
        self.check(BadPaper, others={**self.others, one: both[0]})

    def test_a_clue_too_many(self):
        board = latin(2)
        clues = {A: 1, D: 1}
        paper = paper_for(board.given(clues))
        self.assertRaises(BadPaper, check_needed, board, clues, paper, others_for(board, clues))
        second = {A: 2, B: 1, C: 1, D: 2}
        self.assertRaises(BadPaper, check_needed, board, clues, paper, {A: second, D: second})

    def test_paper(self):
        rows = self.paper[0]
        self.check(BadStep, paper=(rows[:1] + rows, self.paper[1]))
        self.check(BadPaper, paper=(rows[:1], ()))
        self.assertRaises(BadPaper, check_needed, latin(2), {}, paper_for(latin(2)), {})
        # What is wrong with the second solutions is named ahead of a step.
        self.check(BadPaper, paper=(rows[:1] + rows, self.paper[1]), others={(9, 9): None})

    def test_a_clue_not_there(self):
        board = latin(2)
        self.assertRaises(NoSuch, check_needed, board, {(5, 5): 1}, ((), ()), {(5, 5): SQUARE})
        self.assertRaises(NoSuch, check_needed, board, {A: 3}, ((), ()), {A: SQUARE})


class TestFewest(unittest.TestCase):
    def test_by_size_then_in_order(self):
        for board in known_boards() + [boxed(1, 3)]:
            due = brute.all_solutions(board)
            for table in due[:2] + due[-1:]:
                spots = sorted(table)
                lots = [lot for many in range(len(spots) + 1) for lot in combinations(spots, many)
                        if len(keeping(due, {spot: table[spot] for spot in lot})) == 1]
                self.assertEqual(list(fewest(board, table).items()), [(spot, table[spot]) for spot in lots[0]])

    def test_all_are_needed(self):
        board = Board({A: (1, 2), B: (1, 2), C: (1, 2)}, [])
        self.assertEqual(fewest(board, {A: 1, B: 2, C: 1}), {A: 1, B: 2, C: 1})

    def test_refused(self):
        table = {(y, x): (y + x) % 4 + 1 for y, x in latin(4).all_spots()}
        self.assertRaises(BadSize, fewest, latin(4), table)
        self.assertRaises(BadSize, fewest, latin(2), {**SQUARE, A: 2})
        self.assertRaises(BadSize, fewest, latin(2), {A: 1})
        ten = Board({(y, x): (1, 2) for y in range(2) for x in range(5)}, [])
        self.assertRaises(BadSize, fewest, ten, {spot: 1 for spot in ten.all_spots()})
        wide = Board({(0, x): (1, 2) for x in range(9)}, [Less((0, 0), (0, 1))])
        self.assertEqual(len(fewest(wide, {(0, x): 2 if x else 1 for x in range(9)})), 7)


class TestQuarrels(unittest.TestCase):
    def test_squares_that_differ(self):
        board = latin(2)
        other = {A: 2, B: 1, C: 1, D: 2}
        self.assertEqual(quarrels(board, (SQUARE, other)), (((0, 1), (A, B, C, D)),))
        tables = [SQUARE, {**SQUARE, C: 9}, {**SQUARE, D: 8, A: 7}]
        self.assertEqual(quarrels(board, tables), (((0, 1), (C,)), ((0, 2), (A, D)), ((1, 2), (A, C, D))))
        self.assertEqual(quarrels(board, [SQUARE]), ())
        self.assertEqual(quarrels(board, []), ())

    def test_hits_all(self):
        self.assertIs(hits_all({A: 1}, [(A, B), [C, A]]), True)
        self.assertIs(hits_all({A: 1}, [(A, B), (C, D)]), False)
        self.assertIs(hits_all({}, []), True)
        self.assertIs(hits_all({A: 1, B: 1}, ((),)), False)

    def test_clues_hit_all_quarrels(self):
        board = latin(3)
        tables = brute.all_solutions(board)
        lots = [spots for places, spots in quarrels(board, tables) if places[0] == 0]
        self.assertIs(hits_all(fewest(board, tables[0]), lots), True)
        self.assertIs(hits_all({A: 1}, lots), False)


if __name__ == "__main__":
    unittest.main()
