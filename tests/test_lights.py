"""Point 12: lights put out by presses: one way, quiet lots, all ways, and lots that show that there is none."""

import unittest
from itertools import combinations, product

from cluewright.errors import BadPaper, BadSize, BadSquare
from cluewright.lights import (added, all_presses, by_first_row, changed, check_why_not, fewest_presses, one_way, pressed,
                               quiet_lots, rows_for, why_not)
from cluewright.squares import all_squares

SIZES = list(product((1, 2, 3), repeat=2))
BAD_SIZES = [(0, 2), (2, 0), (10, 2), (2, 10), (-1, 3)]


def lots(spots):
    """Return all lots of some squares, by how many, then in order."""
    return [row for many in range(len(spots) + 1) for row in combinations(spots, many)]


def lit_by(presses, high, wide):
    """Return what some presses leave lit, in order, where nothing was lit."""
    lit = {spot: 0 for spot in all_squares(high, wide)}
    for y, x in presses:
        for spot in ((y, x), (y - 1, x), (y + 1, x), (y, x - 1), (y, x + 1)):
            if spot in lit:
                lit[spot] += 1
    return tuple(spot for spot in sorted(lit) if lit[spot] % 2)


def by_lit(high, wide):
    """Return a table of what may be lit to all lots of presses that put it out, by how many, then in order."""
    found = {lot: [] for lot in lots(all_squares(high, wide))}
    for presses in lots(all_squares(high, wide)):
        found[lit_by(presses, high, wide)].append(presses)
    return found


def both(one, other):
    return tuple(sorted(set(one) ^ set(other)))


def first_lots(found, free):
    """Return, of lots that change nothing, those that have one free square alone."""
    return sorted(lot for lot in found if len([spot for spot in lot if spot in free]) == 1)


class TestPressed(unittest.TestCase):
    def test_changed(self):
        self.assertEqual(changed((0, 0), 3, 3), ((0, 0), (0, 1), (1, 0)))
        self.assertEqual(sorted(changed((1, 1), 3, 3)), [(0, 1), (1, 0), (1, 1), (1, 2), (2, 1)])
        self.assertEqual(changed((0, 0), 1, 1), ((0, 0),))
        for spot in all_squares(3, 3):
            self.assertEqual(tuple(sorted(changed(spot, 3, 3))), lit_by([spot], 3, 3))

    def test_all_presses_of_small_boards(self):
        for high, wide in SIZES:
            for presses in lots(all_squares(high, wide)):
                due = lit_by(presses, high, wide)
                self.assertEqual(pressed((), presses, high, wide), due)
                self.assertEqual(pressed(list(due), list(presses)[::-1], high, wide), ())

    def test_known_ones(self):
        self.assertEqual(pressed(((1, 1), (0, 0)), ((0, 0),), 2, 2), ((0, 1), (1, 0), (1, 1)))
        self.assertEqual(pressed(((1, 1),), ((0, 0), (0, 0)), 2, 2), ((1, 1),))
        self.assertEqual(pressed(((1, 1), (0, 0)), (), 2, 2), ((0, 0), (1, 1)))

    def test_outside(self):
        for press in ((2, 0), (0, 3), (-1, 0), (0, -1)):
            self.assertRaises(BadSize, pressed, (), (press,), 2, 3)
            self.assertRaises(BadSize, pressed, (), ((0, 0), press), 2, 3)
            self.assertRaises(BadSize, by_first_row, (), 2, 3, (press,))
        for high, wide in BAD_SIZES:
            self.assertRaises(BadSquare, pressed, (), ((0, 0),), high, wide)

    def test_handed_in_stays(self):
        lit, presses = [(1, 1), (0, 0)], [(1, 0), (0, 0)]
        pressed(lit, presses, 2, 2)
        by_first_row(lit, 2, 2, presses)
        for ask in (one_way, all_presses, fewest_presses, why_not):
            ask(lit, 2, 2)
        self.assertEqual((lit, presses), ([(1, 1), (0, 0)], [(1, 0), (0, 0)]))


class TestRows(unittest.TestCase):
    def test_rows_for(self):
        self.assertEqual([sorted(row) for row in rows_for(1, 3)], [[0, 1], [0, 1, 2], [1, 2]])
        for high, wide in SIZES:
            spots = all_squares(high, wide)
            found = rows_for(high, wide)
            self.assertIsInstance(found, list)
            for row, spot in zip(found, spots):
                self.assertEqual([spots[place] for place in sorted(row)], sorted(changed(spot, high, wide)))
            self.assertEqual(len(found), len(spots))

    def test_added(self):
        one, other = {0: True, 2: True}, {2: True, 5: True}
        self.assertEqual(sorted(added(one, other)), [0, 5])
        self.assertEqual((added(one, one), sorted(added(one, {}))), ({}, [0, 2]))
        self.assertEqual((one, other), ({0: True, 2: True}, {2: True, 5: True}))

    def test_sizes_refused(self):
        for high, wide in BAD_SIZES:
            self.assertRaises(BadSquare, rows_for, high, wide)
            self.assertRaises(BadSquare, quiet_lots, high, wide)
            for ask in (one_way, all_presses, fewest_presses, why_not):
                self.assertRaises(BadSquare, ask, (), high, wide)
            self.assertRaises(BadSquare, check_why_not, (), (), high, wide)


class TestAllLit(unittest.TestCase):
    def test_all_presses_whatever_is_lit(self):
        for high, wide in SIZES:
            for lit, due in by_lit(high, wide).items():
                self.assertEqual(all_presses(lit, high, wide), tuple(due))
                self.assertEqual(fewest_presses(lit, high, wide), due[0] if due else None)

    def test_one_way_whatever_is_lit(self):
        for high, wide in SIZES:
            found = by_lit(high, wide)
            # The free presses: those by which a lot that changes nothing may end.
            free = sorted({lot[-1] for lot in found[()] if lot})
            quiet = tuple(first_lots(found[()], free))
            self.assertEqual(quiet_lots(high, wide), quiet)
            self.assertEqual(2 ** len(quiet), len(found[()]))
            for lit, due in found.items():
                none_free = [lot for lot in due if not set(lot) & set(free)]
                self.assertEqual(len(none_free), 1 if due else 0)
                self.assertEqual(one_way(lit, high, wide), (none_free[0] if due else None, quiet))
                self.assertEqual(one_way(list(lit)[::-1], high, wide), one_way(lit, high, wide))

    def test_quiet_lots_put_together(self):
        for high, wide in SIZES:
            found = [()]
            for lot in quiet_lots(high, wide):
                found += [both(one, lot) for one in found]
            self.assertEqual(sorted(found), sorted(by_lit(high, wide)[()]))

    def test_why_not_whatever_is_lit(self):
        for high, wide in SIZES:
            quiet = quiet_lots(high, wide)
            for lit, due in by_lit(high, wide).items():
                lot = why_not(lit, high, wide)
                if due:
                    self.assertIsNone(lot)
                else:
                    self.assertEqual(lot, [one for one in quiet if len(set(one) & set(lit)) % 2][0])
                    self.assertIs(check_why_not(lit, lot, high, wide), True)

    def test_by_first_row_whatever_is_lit(self):
        for high, wide in SIZES:
            spots = all_squares(high, wide)
            for lit in lots(spots)[::3]:
                for first in lots(spots[:wide]):
                    presses, behind = by_first_row(list(lit), high, wide, first)
                    self.assertEqual(presses[:len(first)], first)
                    self.assertEqual(behind, both(lit, lit_by(presses, high, wide)))
                    self.assertFalse([spot for spot in behind if spot[0] < high - 1])
                    self.assertEqual(list(presses[len(first):]), sorted(presses[len(first):]))
                    self.assertTrue(all(spot[0] > 0 for spot in presses[len(first):]))


class TestKnownOnes(unittest.TestCase):
    def test_nothing_lit(self):
        self.assertEqual(one_way((), 3, 3), ((), ()))
        self.assertEqual((all_presses((), 3, 3), fewest_presses((), 3, 3), why_not((), 3, 3)), (((),), (), None))
        self.assertEqual(by_first_row((), 2, 2, ()), ((), ()))
        self.assertEqual(fewest_presses((), 2, 3), ())

    def test_quiet_lots(self):
        self.assertEqual(quiet_lots(1, 2), (((0, 0), (0, 1)),))
        self.assertEqual((quiet_lots(1, 1), quiet_lots(2, 2), quiet_lots(3, 3)), ((), (), ()))
        five = quiet_lots(5, 5)
        self.assertEqual(len(five), 2)
        self.assertEqual([lot[0] for lot in five], [(0, 0), (0, 1)])
        self.assertEqual([lit_by(lot, 5, 5) for lot in five], [(), ()])
        self.assertEqual([len([spot for spot in lot if spot in ((4, 3), (4, 4))]) for lot in five], [1, 1])
        self.assertEqual((len(quiet_lots(4, 4)), len(quiet_lots(9, 9))), (4, 8))
        for lot in quiet_lots(9, 9):
            self.assertEqual((lit_by(lot, 9, 9), list(lot)), ((), sorted(lot)))

    def test_one_and_two_squares(self):
        self.assertEqual(all_presses(((0, 0),), 1, 1), (((0, 0),),))
        self.assertEqual(all_presses(((0, 0), (0, 1)), 1, 2), (((0, 0),), ((0, 1),)))
        self.assertEqual(one_way(((0, 0), (0, 1)), 1, 2), (((0, 0),), (((0, 0), (0, 1)),)))
        self.assertEqual(all_presses(((0, 0),), 1, 2), ())
        self.assertIsNone(fewest_presses(((0, 0),), 1, 2))
        self.assertEqual(one_way(((0, 1),), 1, 2), (None, (((0, 0), (0, 1)),)))

    def test_all_lit_five_by_five(self):
        lit = all_squares(5, 5)
        found = all_presses(lit, 5, 5)
        self.assertEqual([len(lot) for lot in found], [15] * 4)
        self.assertEqual(list(found), sorted(found))
        self.assertEqual([lit_by(lot, 5, 5) for lot in found], [lit] * 4)
        self.assertEqual(fewest_presses(lit, 5, 5), found[0])

    def test_five_by_five_not_put_out(self):
        lit = ((0, 0),)
        self.assertEqual(all_presses(lit, 5, 5), ())
        lot = why_not(lit, 5, 5)
        self.assertEqual(lot, quiet_lots(5, 5)[0])
        self.assertIs(check_why_not(lit, list(lot)[::-1], 5, 5), True)
        self.assertEqual(why_not(((0, 1),), 5, 5), quiet_lots(5, 5)[1])

    def test_row_by_row(self):
        self.assertEqual(by_first_row(((0, 0), (0, 1)), 2, 2, ((0, 1),)), (((0, 1),), ((1, 1),)))
        self.assertEqual(by_first_row(((0, 0),), 2, 2, ()), (((1, 0),), ((1, 0), (1, 1))))
        self.assertEqual(by_first_row([(0, 0)], 1, 2, [(0, 1)]), (((0, 1),), ((0, 1),)))


class TestCheckWhyNot(unittest.TestCase):
    def test_all_lots_of_small_boards(self):
        for high, wide in ((1, 1), (1, 2), (2, 2), (1, 3), (2, 3)):
            spots = all_squares(high, wide)
            quiet = by_lit(high, wide)[()]
            for lit in lots(spots):
                for lot in lots(spots):
                    if lot in quiet and len(set(lot) & set(lit)) % 2 == 1:
                        self.assertIs(check_why_not(lit, lot, high, wide), True)
                    else:
                        self.assertRaises(BadPaper, check_why_not, lit, lot, high, wide)

    def test_a_lot_that_is_none(self):
        lit = ((0, 0),)
        self.assertIs(check_why_not(lit, ((0, 0), (0, 1)), 1, 2), True)
        for lot in (((0, 0), (0, 1), (0, 1)), ((0, 0), (0, 1), (0, 2)), ((0, 0), (0, 0)), ((5, 5),), (), ((0, 0),),
                    ((0, 1),)):
            self.assertRaises(BadPaper, check_why_not, lit, lot, 1, 2)
        self.assertRaises(BadPaper, check_why_not, ((0, 0), (0, 1)), ((0, 0), (0, 1)), 1, 2)


if __name__ == "__main__":
    unittest.main()
