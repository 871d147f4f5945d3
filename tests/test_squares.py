"""Point 1 and 2: squares, sizes, neighbours, boxes, lots, parts, texts, and tables turned."""

import unittest

from cluewright import errors
from cluewright.errors import BadSquare, BadText, GridFault
from cluewright.squares import (all_squares, around, beside, boxes, check_rows, check_size, column_of, hangs, lots_of,
                                mirrored, parts_of, read, row_of, told, turned)


class TestErrors(unittest.TestCase):
    def test_all_stand_under_gridfault(self):
        self.assertTrue(issubclass(GridFault, ValueError))
        for name in ("BadSquare", "BadRule", "BadStep", "BadPaper", "BadSize", "BadText", "BadStore", "NoWay",
                     "NoSuch"):
            self.assertEqual(getattr(errors, name).__mro__[1], GridFault, name)

    def test_one_is_not_another(self):
        with self.assertRaises(errors.NoWay):
            try:
                raise errors.NoWay("here")
            except errors.NoSuch:
                self.fail("NoWay is no NoSuch")


class TestSizes(unittest.TestCase):
    def test_one_to_nine(self):
        for high in range(-1, 12):
            for wide in range(-1, 12):
                if 1 <= high <= 9 and 1 <= wide <= 9:
                    self.assertEqual(check_size(high, wide), (high, wide))
                else:
                    self.assertRaises(BadSquare, check_size, high, wide)
                    self.assertRaises(BadSquare, all_squares, high, wide)

    def test_squares_row_by_row(self):
        self.assertEqual(all_squares(1, 1), ((0, 0),))
        self.assertEqual(all_squares(2, 3), ((0, 0), (0, 1), (0, 2), (1, 0), (1, 1), (1, 2)))
        nine = all_squares(9, 9)
        self.assertEqual(len(nine), 81)
        self.assertEqual(nine, tuple(sorted(nine)))
        self.assertEqual(nine[-1], (8, 8))

    def test_lines(self):
        self.assertEqual(row_of(2, 3), ((2, 0), (2, 1), (2, 2)))
        self.assertEqual(column_of(2, 3), ((0, 2), (1, 2), (2, 2)))
        self.assertEqual(row_of(0, 1), column_of(0, 1))


class TestNeighbours(unittest.TestCase):
    def test_beside(self):
        self.assertEqual(beside((1, 1), 3, 3), ((0, 1), (1, 0), (1, 2), (2, 1)))
        self.assertEqual(beside((0, 0), 3, 3), ((0, 1), (1, 0)))
        self.assertEqual(beside((2, 3), 3, 4), ((1, 3), (2, 2)))
        self.assertEqual(beside((0, 0), 1, 1), ())
        self.assertEqual(beside((0, 1), 1, 3), ((0, 0), (0, 2)))

    def test_around(self):
        self.assertEqual(around((1, 1), 3, 3),
                         ((0, 0), (0, 1), (0, 2), (1, 0), (1, 2), (2, 0), (2, 1), (2, 2)))
        self.assertEqual(around((0, 0), 2, 2), ((0, 1), (1, 0), (1, 1)))
        self.assertEqual(around((0, 0), 1, 1), ())

    def test_both_go_both_ways(self):
        spots = all_squares(4, 5)
        for ask, far in ((beside, 1), (around, 2)):
            for one in spots:
                due = [two for two in spots if one != two
                       and abs(one[0] - two[0]) < 2 and abs(one[1] - two[1]) < 2
                       and abs(one[0] - two[0]) + abs(one[1] - two[1]) <= far]
                self.assertEqual(ask(one, 4, 5), tuple(due))


class TestBoxes(unittest.TestCase):
    def test_in_order_of_first_squares(self):
        self.assertEqual(boxes(2, 4, 1, 2), (((0, 0), (0, 1)), ((0, 2), (0, 3)), ((1, 0), (1, 1)), ((1, 2), (1, 3))))
        self.assertEqual(boxes(4, 2, 2, 1)[1], ((0, 1), (1, 1)))
        self.assertEqual(boxes(1, 1, 1, 1), (((0, 0),),))

    def test_nine_by_nine(self):
        found = boxes(9, 9, 3, 3)
        self.assertEqual(len(found), 9)
        self.assertEqual(found[4], tuple((y, x) for y in (3, 4, 5) for x in (3, 4, 5)))
        self.assertEqual(sorted(spot for box in found for spot in box), list(all_squares(9, 9)))

    def test_refused(self):
        for what in ((4, 4, 3, 2), (4, 4, 2, 3), (4, 4, 0, 2), (4, 4, 2, 0), (4, 4, -2, 2), (4, 4, 2, -1),
                     (0, 4, 2, 2), (4, 0, 2, 2), (10, 10, 5, 5), (0, 0, 1, 1), (0, 0, 0, 0)):
            self.assertRaises(BadSquare, boxes, *what)


class TestLots(unittest.TestCase):
    def test_letters_in_order_squares_in_order(self):
        found = lots_of(["bab", "cab"])
        self.assertEqual(found, {"a": ((0, 1), (1, 1)), "b": ((0, 0), (0, 2), (1, 2)), "c": ((1, 0),)})
        self.assertEqual(list(found), ["a", "b", "c"])
        self.assertEqual(lots_of(("x",)), {"x": ((0, 0),)})

    def test_rows_checked(self):
        rows = ["ab", "cd"]
        self.assertEqual(check_rows(rows), ("ab", "cd"))
        self.assertEqual(check_rows(("a",)), ("a",))
        for bad in ([], (), [""], ["", ""], ["ab", "c"], ["a", "bc"], ["a", ""], ["ab", "ab", "abc"]):
            self.assertRaises(BadText, check_rows, bad)
            self.assertRaises(BadText, lots_of, bad)
            self.assertRaises(BadText, read, bad)
        self.assertEqual(rows, ["ab", "cd"])

    def test_hangs(self):
        self.assertIs(hangs(()), True)
        self.assertIs(hangs([(3, 3)]), True)
        self.assertIs(hangs(((0, 0), (0, 1), (1, 1))), True)
        self.assertIs(hangs(((0, 0), (1, 1))), False)
        self.assertIs(hangs(((0, 0), (0, 2))), False)
        self.assertIs(hangs(all_squares(9, 9)), True)

    def test_parts(self):
        self.assertEqual(parts_of(()), ())
        self.assertEqual(parts_of([(2, 2), (0, 1), (2, 1), (0, 0)]), (((0, 0), (0, 1)), ((2, 1), (2, 2))))
        # A part whose first square is ahead, though its other squares are behind.
        self.assertEqual(parts_of([(1, 0), (0, 2), (1, 2)]), (((0, 2), (1, 2)), ((1, 0),)))
        self.assertEqual(parts_of(all_squares(9, 9)), (all_squares(9, 9),))
        spots = [(1, 1), (0, 0)]
        parts_of(spots)
        self.assertEqual(spots, [(1, 1), (0, 0)])


class TestTexts(unittest.TestCase):
    def test_told(self):
        self.assertEqual(told({(0, 0): 1, (1, 1): "b"}, 2, 3), ("1..", ".b."))
        self.assertEqual(told({}, 1, 2, "-"), ("--",))
        self.assertEqual(told({}, 1, 2, bare="0"), ("00",))

    def test_read(self):
        found = read(["1.", ".0"])
        self.assertEqual(found, {(0, 0): 1, (1, 1): 0})
        self.assertEqual(read(["--"], "-"), {})
        self.assertEqual(read(("9",)), {(0, 0): 9})
        # A bare sign is left out, a figure too.
        self.assertEqual(read(["102"], "0"), {(0, 0): 1, (0, 2): 2})

    def test_another_sign(self):
        for bad in (["a"], ["1 "], ["1-"], ["-1"], ["\u00b2"], ["\u0663"]):
            self.assertRaises(BadText, read, bad)
        self.assertRaises(BadText, read, ["1."], "-")

    def test_read_again(self):
        table = {(y, x): (3 * y + x) % 10 for y, x in all_squares(9, 9) if (y + x) % 3}
        self.assertEqual(read(told(table, 9, 9)), table)


class TestTurned(unittest.TestCase):
    def test_a_quarter_to_the_right(self):
        table = {(0, 0): 1, (0, 1): 2, (0, 2): 3, (1, 0): 4, (1, 1): 5, (1, 2): 6}
        self.assertEqual(told(turned(table, 2, 3), 3, 2), ("41", "52", "63"))
        self.assertEqual(table[(0, 0)], 1)
        self.assertEqual(turned({}, 2, 3), {})
        self.assertEqual(turned({(0, 0): "a"}, 1, 1), {(0, 0): "a"})

    def test_four_quarters_are_none(self):
        table = {(y, x): 4 * y + x for y, x in all_squares(3, 4) if y != x}
        once = turned(table, 3, 4)
        twice = turned(once, 4, 3)
        self.assertEqual(turned(turned(twice, 3, 4), 4, 3), table)
        self.assertNotEqual(twice, table)

    def test_mirrored(self):
        table = {(0, 0): 1, (0, 1): 2, (1, 2): 3}
        self.assertEqual(mirrored(table, 3), {(0, 2): 1, (0, 1): 2, (1, 0): 3})
        self.assertEqual(mirrored(mirrored(table, 3), 3), table)
        self.assertEqual(mirrored({}, 3), {})


if __name__ == "__main__":
    unittest.main()
