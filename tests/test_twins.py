"""Point 23: lines and boards of noughts and ones, against going through all of them."""

import unittest
from itertools import product

from boards_to_try import Numbers
from cluewright.errors import BadPaper, BadSize
from cluewright.twins import (all_even_lines, check_even, check_twins, fewest_known, grow, is_line, line_steps,
                              may_begin, must, twins)

WRONG_SIZES = (-2, 0, 1, 3, 5, 7, 9, 10)


def even(row):
    text = "".join(str(value) for value in row)
    return 2 * sum(row) == len(row) and "000" not in text and "111" not in text


def tried_lines(size):
    return tuple(row for row in product((0, 1), repeat=size) if even(row))


def is_board(rows):
    columns = list(zip(*rows))
    return all(even(line) for line in [*rows, *columns]) and len(set(rows)) == len(rows) == len(set(columns))


def tried_boards(size):
    return [rows for rows in product(tried_lines(size), repeat=size) if is_board(rows)]


TWO, FOUR = tried_boards(2), tried_boards(4)


def having(boards, known):
    return tuple(rows for rows in boards if all(rows[y][x] == value for (y, x), value in known.items()))


class TestLines(unittest.TestCase):
    def test_check_even(self):
        for size in (2, 4, 6, 8):
            self.assertEqual(check_even(size), size)
        for size in WRONG_SIZES:
            self.assertRaises(BadSize, check_even, size)
            self.assertRaises(BadSize, all_even_lines, size)
            self.assertRaises(BadSize, twins, size, {})

    def test_is_line(self):
        for size in range(9):
            for row in product((0, 1), repeat=size):
                self.assertIs(is_line(row), even(row))
                self.assertIs(is_line(list(row)), even(row))
        self.assertIs(is_line((0, 2)), False)
        self.assertIs(is_line((0, 1, 2, 2)), False)

    def test_all_even_lines(self):
        self.assertEqual(all_even_lines(2), ((0, 1), (1, 0)))
        for size in (2, 4, 6, 8):
            self.assertEqual(all_even_lines(size), tried_lines(size))

    def test_may_begin(self):
        for size in (2, 4, 6, 8):
            begun = {line[:many] for line in tried_lines(size) for many in range(size + 1)}
            for many in range(size + 2):
                for row in product((0, 1), repeat=many):
                    self.assertIs(may_begin(row, size), row in begun, (row, size))
                    self.assertIs(may_begin(list(row), size), row in begun)
        # As many as half, and no three alike yet: but all that is left would be alike.
        self.assertIs(may_begin((1, 1, 0, 1, 1), 8), False)

    def test_must(self):
        for size in range(1, 6):
            for row in product((0, 1, None), repeat=size):
                for place, number in product(range(size), (0, 1)):
                    other = 1 - number
                    pairs = [(place - 2, place - 1), (place - 1, place + 1), (place + 1, place + 2)]
                    due = any(0 <= one and two < size and row[one] == other == row[two] for one, two in pairs)
                    self.assertIs(must(row, place, number), due, (row, place, number))

    def test_line_steps(self):
        self.assertEqual(line_steps((0, 0, None, None)), ((2, 1), (3, 1)))
        self.assertEqual(line_steps((None, 0, 0, None, None, None)), ((0, 1), (3, 1)))
        self.assertEqual(line_steps((0, None, 0, None, None, None)), ((1, 1),))
        self.assertEqual(line_steps((1, None, None, 1)), ((1, 0), (2, 0)))
        self.assertEqual(line_steps((None, None)), ())
        self.assertEqual(line_steps([0, 1]), ())
        for size in (2, 4, 6):
            for row in product((0, 1, None), repeat=size):
                due = []
                for place in range(size):
                    follows = [number for number in (0, 1)
                               if must(row, place, number) or row.count(1 - number) >= size // 2]
                    if row[place] is None and follows:
                        due.append((place, follows[0]))
                given = list(row)
                self.assertEqual(line_steps(given), tuple(due), row)
                self.assertEqual(given, list(row))

    def test_steps_leave_out_only_what_no_line_has(self):
        for row in product((0, 1, None), repeat=6):
            lines = [line for line in tried_lines(6) if all(known in (None, value) for known, value in zip(row, line))]
            for place, number in line_steps(row):
                self.assertTrue(all(line[place] == number for line in lines), row)


class TestTwins(unittest.TestCase):
    def test_against_all_boards(self):
        self.assertEqual(twins(2, {}), tuple(TWO))
        self.assertEqual(twins(4, {}), tuple(FOUR))
        self.assertEqual((len(TWO), len(FOUR)), (2, 72))
        numbers = Numbers(23)
        for size, boards in ((2, TWO), (4, FOUR)):
            spots = list(product(range(size), repeat=2))
            for _ in range(150):
                lot = numbers.some(spots, 1 + numbers.below(min(7, len(spots))))
                known = {spot: numbers.below(2) for spot in lot}
                given = dict(known)
                due = having(boards, known)
                self.assertEqual(twins(size, known), due)
                self.assertEqual(known, given)

    def test_so_many(self):
        for many in (0, 1, 2, 71, 72, 73):
            self.assertEqual(twins(4, {}, many), tuple(FOUR[:many]))
        self.assertEqual(twins(4, {}, most=None), tuple(FOUR))

    def test_great_boards(self):
        self.assertEqual(len(twins(6, {})), 4140)
        for rows in twins(8, {(0, 0): 1, (7, 7): 1, (3, 4): 0}, 3):
            self.assertTrue(is_board(rows))
            self.assertEqual((rows[0][0], rows[7][7], rows[3][4]), (1, 1, 0))

    def test_refused(self):
        for known in ({(0, 2): 0}, {(2, 0): 0}, {(-1, 0): 0}, {(0, -1): 1}, {(0, 0): 2}, {(0, 0): -1}):
            self.assertRaises(BadSize, twins, 2, known)

    def test_grow(self):
        lines = all_even_lines(4)
        known = {(0, 0): 1, (3, 1): 0}
        due = having(FOUR, known)
        for many in range(5):
            rows_to_try = {rows[:many] for rows in due} | {(lines[0],) * many, tuple(FOUR[0][:many])}
            for rows in sorted(rows_to_try):
                whole = [board for board in due if board[:many] == rows]
                found = ["ahead"]
                grow(4, known, lines, rows, None, found)
                self.assertEqual(found, ["ahead"] + whole)
                found = ["ahead"]
                grow(4, known, list(lines), [list(row) for row in rows], 2, found)
                self.assertEqual(found, ["ahead"] + whole[:1])
        self.assertEqual(known, {(0, 0): 1, (3, 1): 0})
        for many in (1, 2):
            for rows in product(product((0, 1), repeat=4), repeat=many):
                found = []
                grow(4, {}, lines, rows, None, found)
                self.assertEqual(found, [board for board in FOUR if board[:many] == rows])
        found = []
        grow(4, {}, lines, (*FOUR[0], FOUR[0][0]), None, found)
        lines = all_even_lines(6)
        for line in lines[::4]:
            grow(6, {}, lines, (line, line), None, found)
        self.assertEqual(found, [])

    def test_check_twins(self):
        for rows in FOUR:
            self.assertIs(check_twins([list(row) for row in rows], {(2, 3): rows[2][3]}), True)
            self.assertRaises(BadPaper, check_twins, rows, {(2, 3): 1 - rows[2][3]})
        for rows in product(tried_lines(4), repeat=4):
            if rows not in FOUR:
                self.assertRaises(BadPaper, check_twins, rows, {})
        for rows in product(product((0, 1), repeat=2), repeat=2):
            if rows in TWO:
                self.assertIs(check_twins(rows, {}), True)
            else:
                self.assertRaises(BadPaper, check_twins, rows, {})
        for rows in (((0, 1), (1,)), ((0, 1, 0), (1, 0, 1)), ((0, 1), ()), ((0, 1), (1, 2))):
            self.assertRaises(BadPaper, check_twins, rows, {})
        # Each row and column is a line, but two rows are alike, or two columns.
        alike = ((0, 0, 1, 0, 1, 1), (0, 0, 1, 1, 0, 1), (1, 1, 0, 0, 1, 0), (0, 1, 0, 1, 0, 1), (1, 0, 1, 1, 0, 0),
                 (1, 1, 0, 0, 1, 0))
        for rows in (alike, tuple(zip(*alike))):
            self.assertTrue(all(even(line) for line in [*rows, *zip(*rows)]))
            self.assertEqual({len(set(rows)), len(set(zip(*rows)))}, {5, 6})
            self.assertRaises(BadPaper, check_twins, rows, {})
        for known in ({(2, 0): 0}, {(0, 2): 0}, {(-1, 0): 1}):
            self.assertRaises(BadPaper, check_twins, ((0, 1), (1, 0)), known)
        for size in (1, 3, 10):
            self.assertRaises(BadSize, check_twins, ((0,) * size,) * size, {})
        self.assertRaises(BadSize, check_twins, (), {})

    def test_fewest_known(self):
        self.assertEqual(fewest_known(((0, 1), (1, 0))), {(1, 1): 0})
        for rows in FOUR[::5]:
            due = {(y, x): rows[y][x] for y, x in product(range(4), repeat=2)}
            for spot in sorted(due):
                rest = {one: due[one] for one in due if one != spot}
                if having(FOUR, rest) == (rows,):
                    due = rest
            self.assertEqual(list(fewest_known([list(row) for row in rows]).items()), list(due.items()))
        six = twins(6, {(0, 0): 0, (2, 3): 1, (5, 1): 1}, 1)[0]
        known = fewest_known(six)
        self.assertEqual(twins(6, known), (six,))
        for spot in known:
            self.assertGreater(len(twins(6, {one: known[one] for one in known if one != spot}, 2)), 1)

    def test_fewest_known_refused(self):
        for rows in (((0, 1), (0, 1)), ((0, 1), (1,)), ((0, 0), (1, 1))):
            self.assertRaises(BadPaper, fewest_known, rows)
        for rows in ((), ((0,),), ((0, 1, 0),) * 3, ((0, 1) * 5,) * 10):
            self.assertRaises(BadSize, fewest_known, rows)


if __name__ == "__main__":
    unittest.main()
