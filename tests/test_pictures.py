"""Point 10: pictures told by runs, filled line by line and wholly, against going through all lines and pictures."""

import unittest
from itertools import product

import brute
from cluewright.errors import BadRule, BadSize, BadSquare, NoWay
from cluewright.pictures import (agrees, all_lines, board_of, check_line, filled, how_many_lines, is_plain, pictures,
                                 runs_both, spare, sure_line)
from cluewright.search import solutions
from cluewright.squares import all_squares, column_of, row_of

BAD_LINES = [((0,), 3), ((1, 0), 5), ((-1,), 3), ((4,), 3), ((1, 1), 2), ((2, 2, 2), 7), ((1,), 0), ((), -1)]
CROSS = ([(1,), (3,), (1,)], [(1,), (3,), (1,)])
TWO_WAYS = ([(1,), (1,)], [(1,), (1,)])


def lines_of(size):
    return list(product((0, 1), repeat=size))


def ones(row):
    return [place for place, value in enumerate(row) if value == 1]


def all_runs(size):
    return sorted({brute.runs(row) for row in lines_of(size)})


def with_runs(runs, size):
    """Return all lines with runs, leftmost first, by going through all lines."""
    return sorted([row for row in lines_of(size) if brute.runs(row) == tuple(runs)], key=ones)


def all_pictures(high, wide):
    return list(product(lines_of(wide), repeat=high))


def told_runs(picture):
    return (tuple(brute.runs(row) for row in picture), tuple(brute.runs(column) for column in zip(*picture)))


def sure_of(rows):
    """Return what all rows have alike, None elsewhere."""
    return tuple(column[0] if len(set(column)) == 1 else None for column in zip(*rows))


def fill_plainly(rows, columns):
    """Return (steps, picture) of filling, each line anew from all lines, NoWay's name where a line has none."""
    table = {spot: None for spot in product(range(len(rows)), range(len(columns)))}
    told = []
    names = [("row", y, runs, row_of(y, len(columns))) for y, runs in enumerate(rows)]
    names += [("column", x, runs, column_of(x, len(rows))) for x, runs in enumerate(columns)]
    while True:
        before = dict(table)
        for name, place, runs, spots in names:
            known = tuple(table[spot] for spot in spots)
            good = [row for row in with_runs(runs, len(spots))
                    if all(value in (None, here) for value, here in zip(known, row))]
            if not good:
                return "no way"
            line = sure_of(good)
            if line != known:
                told.append((name, place, line))
                table.update(zip(spots, line))
        if table == before:
            break
    return (tuple(told), tuple(tuple(table[spot] for spot in row_of(y, len(columns))) for y in range(len(rows))))


class TestLines(unittest.TestCase):
    def test_check_line(self):
        for runs, size in (((), 0), ((), 3), ((3,), 3), ((1, 1), 3), ([2, 1], 4), ((9,), 9)):
            self.assertEqual(check_line(runs, size), tuple(runs))

    def test_lines_that_do_not_fit(self):
        for runs, size in BAD_LINES:
            for ask in (check_line, all_lines, spare, how_many_lines):
                self.assertRaises(BadRule, ask, runs, size)
        for runs, size in BAD_LINES[:-1]:
            self.assertRaises(BadRule, sure_line, runs, (None,) * size)
            # Known places that leave no way don't count: a line that can't be is told first.
            self.assertRaises(BadRule, sure_line, runs, (1, 0, 1, 0, 1, 0, 1)[:size])

    def test_all_lines_against_all(self):
        for size in range(8):
            for runs in all_runs(size):
                due = with_runs(runs, size)
                self.assertEqual(all_lines(runs, size), tuple(due))
                self.assertEqual(all_lines(list(runs), size), tuple(due))
                self.assertEqual(how_many_lines(runs, size), len(due))

    def test_all_lines_leftmost_first(self):
        self.assertEqual(all_lines((1,), 3), ((1, 0, 0), (0, 1, 0), (0, 0, 1)))
        self.assertEqual(all_lines((1, 1), 4), ((1, 0, 1, 0), (1, 0, 0, 1), (0, 1, 0, 1)))
        self.assertEqual(all_lines((2, 1), 4), ((1, 1, 0, 1),))
        self.assertEqual((all_lines((), 2), all_lines((), 0)), (((0, 0),), ((),)))

    def test_spare(self):
        for runs, size, due in (((), 4, 4), ((), 0, 0), ((4,), 4, 0), ((1,), 4, 3), ((1, 1), 4, 1), ([2, 1], 9, 5)):
            self.assertEqual(spare(runs, size), due)

    def test_each_run_moves_so_far(self):
        for size in range(1, 8):
            for runs in all_runs(size):
                lines = with_runs(runs, size)
                if runs:
                    self.assertEqual(spare(runs, size), ones(lines[-1])[0] - ones(lines[0])[0])

    def test_how_many_lines_not_told(self):
        self.assertEqual(how_many_lines((1,) * 10, 60), 12777711870)
        self.assertEqual(how_many_lines((), 100), 1)

    def test_agrees(self):
        self.assertIs(agrees((1, 0, 1), (None, 0, 1)), True)
        self.assertIs(agrees([1, 0, 1], [None, None, None]), True)
        self.assertIs(agrees((1, 0, 1), (0, None, None)), False)
        self.assertIs(agrees((1, 0, 1), (1, 1, 1)), False)
        self.assertIs(agrees((), ()), True)


class TestSureLine(unittest.TestCase):
    def test_against_all_lines(self):
        for size in range(6):
            for known in product((None, 0, 1), repeat=size):
                for runs in all_runs(size):
                    good = [row for row in with_runs(runs, size) if agrees(row, known)]
                    if good:
                        self.assertEqual(sure_line(runs, known), sure_of(good), (runs, known))
                    else:
                        self.assertRaises(NoWay, sure_line, runs, known)

    def test_known_ones(self):
        self.assertEqual(sure_line((3,), (None,) * 5), (None, None, 1, None, None))
        self.assertEqual(sure_line([2, 2], [None] * 5), (1, 1, 0, 1, 1))
        self.assertEqual(sure_line((), (None, None)), (0, 0))
        self.assertEqual(sure_line((1,), (None, 0, None)), (None, 0, None))
        self.assertEqual(sure_line((1,), (0, 0, None)), (0, 0, 1))
        self.assertRaises(NoWay, sure_line, (1,), (0, 0, 0))
        self.assertRaises(NoWay, sure_line, (), (None, 1))
        self.assertRaises(NoWay, sure_line, (2,), (1, None, 1))

    def test_a_long_line(self):
        known = (None,) * 60
        self.assertEqual(sure_line((1,) * 30, (1,) + known[:58]), (1, 0) * 29 + (1,))
        self.assertEqual(sure_line((5,) * 9, known), known)

    def test_handed_in_stays(self):
        runs, known = [1, 1], [None, 0, None, None]
        sure_line(runs, known)
        all_lines(runs, 4)
        self.assertEqual((runs, known), ([1, 1], [None, 0, None, None]))


class TestFilled(unittest.TestCase):
    def test_against_all_lines(self):
        for high, wide in product((1, 2, 3), repeat=2):
            for rows in product(all_runs(wide), repeat=high):
                for columns in list(product(all_runs(high), repeat=wide))[::3]:
                    due = fill_plainly(rows, columns)
                    if due == "no way":
                        self.assertRaises(NoWay, filled, rows, columns)
                    else:
                        self.assertEqual(filled(rows, columns), due)

    def test_steps_told(self):
        self.assertEqual(filled(*CROSS), (
            (("row", 1, (1, 1, 1)), ("column", 0, (0, 1, 0)), ("column", 1, (1, 1, 1)), ("column", 2, (0, 1, 0))),
            ((0, 1, 0), (1, 1, 1), (0, 1, 0))))
        self.assertEqual(filled(*TWO_WAYS), ((), ((None, None), (None, None))))
        self.assertEqual(filled([(2,), (1,)], [(2,), (1,)]), (
            (("row", 0, (1, 1)), ("column", 0, (1, 1)), ("column", 1, (1, 0))), ((1, 1), (1, 0))))
        # Rows again, once columns told them something.
        self.assertEqual(filled([(1,), (1,), (2,)], [(1,), (1,), (2,)]), (
            (("row", 2, (None, 1, None)), ("column", 1, (0, 0, 1)), ("column", 2, (None, 1, None)),
             ("row", 1, (0, 0, 1))), ((None, 0, None), (0, 0, 1), (None, 1, None))))

    def test_pictures_of_greater_size(self):
        for seed in range(12):
            picture = a_picture_of(6, 5, seed)
            rows, columns = runs_both(picture)
            self.assertEqual(filled(rows, columns), fill_plainly(rows, columns))

    def test_no_way(self):
        self.assertRaises(NoWay, filled, [(2,), (2,)], [(2,), ()])
        self.assertRaises(NoWay, filled, [()], [(1,)])
        self.assertRaises(BadRule, filled, [(3,)], [(1,), (1,)])
        self.assertRaises(BadRule, filled, [(1,)], [(2,), ()])

    def test_handed_in_stays(self):
        rows, columns = [[1], [3], [1]], [[1], [3], [1]]
        self.assertEqual(filled(rows, columns), filled(*CROSS))
        self.assertEqual(pictures(rows, columns), pictures(*CROSS))
        board_of(rows, columns)
        self.assertEqual((rows, columns), ([[1], [3], [1]], [[1], [3], [1]]))


def a_picture_of(high, wide, seed):
    """Return a picture that looks thrown, the same at each run."""
    now = seed * 7919 + 5
    rows = []
    for _ in range(high):
        now = (now * 1103515245 + 12345) % 2147483648
        rows.append(tuple((now >> (8 + at)) & 1 for at in range(wide)))
    return tuple(rows)


class TestPictures(unittest.TestCase):
    def test_all_pictures_up_to_three_by_three(self):
        for high, wide in product((1, 2, 3), repeat=2):
            by_runs = {}
            for picture in all_pictures(high, wide):
                self.assertEqual(runs_both(picture), told_runs(picture))
                by_runs.setdefault(told_runs(picture), []).append(picture)
            for rows, columns in product(product(all_runs(wide), repeat=high), product(all_runs(high), repeat=wide)):
                due = by_runs.get((rows, columns), [])
                if due or (len(rows) + len(columns) < 6):
                    self.assertEqual(pictures(rows, columns), tuple(due))
            for (rows, columns), due in by_runs.items():
                self.assertEqual(due, sorted(due))
                self.assertIs(is_plain(due[0]), len(due) == 1)
                for most in range(len(due) + 2):
                    self.assertEqual(pictures(rows, columns, most), tuple(due[:most]))

    def test_as_the_boards_solutions(self):
        for seed in range(8):
            rows, columns = runs_both(a_picture_of(4, 5, seed))
            due = [tuple(tuple(table[(y, x)] for x in range(5)) for y in range(4))
                   for table in solutions(board_of(rows, columns))]
            self.assertEqual(list(pictures(rows, columns)), due)

    def test_known_ones(self):
        self.assertEqual(pictures(*CROSS), (((0, 1, 0), (1, 1, 1), (0, 1, 0)),))
        self.assertEqual(pictures(*TWO_WAYS), (((0, 1), (1, 0)), ((1, 0), (0, 1))))
        self.assertEqual(pictures(*TWO_WAYS, most=1), (((0, 1), (1, 0)),))
        self.assertEqual(pictures([(2,), ()], [(2,), ()]), ())
        self.assertEqual(len(pictures([(1,)] * 5, [(1,)] * 5)), 120)
        self.assertIs(is_plain([[0, 1], [1, 0]]), False)
        self.assertIs(is_plain(((1, 1), (1, 0))), True)

    def test_nine_by_nine(self):
        rows = [(3,), (2, 1), (3, 2), (2, 2), (6,), (1, 5), (6,), (1,), (2,)]
        columns = [(1, 2), (3, 1), (1, 5), (7, 1), (5,), (3,), (4,), (3,), ()]
        for picture in pictures(rows, columns):
            self.assertEqual(runs_both(picture), (tuple(rows), tuple(columns)))
        for seed in range(6):
            picture = a_picture_of(9, 9, seed)
            found = pictures(*runs_both(picture))
            self.assertIn(picture, found)
            self.assertEqual(list(found), sorted(found))
            self.assertIs(is_plain(picture), len(found) == 1)

    def test_refused(self):
        self.assertRaises(BadRule, pictures, [(3,)], [(1,), (1,)])
        self.assertRaises(BadRule, pictures, [(1,)], [(1,), (2,)], -1)
        self.assertRaises(BadSize, pictures, *CROSS, -1)
        self.assertEqual(pictures(*CROSS, most=0), ())
        for rows, columns in (([], []), ([], [()]), ([()], []), ([()] * 10, [()]), ([()], [()] * 10)):
            self.assertRaises(BadSquare, pictures, rows, columns)
            self.assertRaises(BadSquare, board_of, rows, columns)

    def test_runs_both(self):
        self.assertEqual(runs_both([[1, 1, 0, 1], [0, 0, 0, 0]]), (((2, 1), ()), ((1,), (1,), (), (1,))))


class TestBoardOf(unittest.TestCase):
    def test_rules_and_numbers(self):
        board = board_of([(2,), [1]], ((1,), (1, ), [1]))
        self.assertEqual(board.shown(), (
            tuple((spot, (0, 1)) for spot in all_squares(2, 3)),
            (("runs", row_of(0, 3), (2,)), ("runs", row_of(1, 3), (1,)), ("runs", column_of(0, 2), (1,)),
             ("runs", column_of(1, 2), (1,)), ("runs", column_of(2, 2), (1,)))))

    def test_refused(self):
        for rows, columns in (([(3,)], [(1,), ()]), ([(1,)], [(1,), (2,)]), ([(0,)], [()]), ([()], [(-1,)])):
            self.assertRaises(BadRule, board_of, rows, columns)
        # A run that doesn't fit is told ahead of a board that can't be.
        self.assertRaises(BadRule, board_of, [(2,)] * 10, [(1,)])
        self.assertRaises(BadRule, board_of, [], [(1,)])


if __name__ == "__main__":
    unittest.main()
