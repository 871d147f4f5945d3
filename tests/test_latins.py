"""Point 9: latins, made, turned, renamed, their choices, mates and swaps, against going through all."""

import unittest
from itertools import combinations, permutations, product

from cluewright.boards import latin
from cluewright.errors import BadSize, BadSquare
from cluewright.latins import (all_latins, apart, are_square, check_latin, choices, cover, cyclic, flipped, mate, moved,
                               orders_of, plain, renamed, swaps)
from cluewright.search import solutions

ONE = ((1,),)
TWO = ((1, 2), (2, 1))
THREE = ((1, 2, 3), (2, 3, 1), (3, 1, 2))
FOUR = ((1, 2, 3, 4), (2, 1, 4, 3), (3, 4, 1, 2), (4, 3, 2, 1))
NO_LATINS = [(), [], ((),), ((2,),), ((0,),), ((1, 2), (1, 2)), ((1, 1), (2, 2)), ((1, 2), (2, 3)), ((1, 2), (2,)),
             ((1, 2),), ((1, 2, 3), (2, 3, 1), (3, 2, 1)), ((1, 2), (2, 1), (1, 2)), ((1,), (1,)), ((0, 1), (1, 0))]


def is_latin(rows):
    lines = list(rows) + list(zip(*rows))
    return all(sorted(line) == list(range(1, len(rows) + 1)) for line in lines)


def tried_latins(size):
    """Return all latins, by going through all lots of rows."""
    orders = list(permutations(range(1, size + 1)))
    return tuple(rows for rows in product(orders, repeat=size) if is_latin(rows))


def small_latins():
    return [rows for size in (1, 2, 3) for rows in all_latins(size)] + list(all_latins(4)[::7])


def as_lists(rows):
    return [list(row) for row in rows]


class TestCheck(unittest.TestCase):
    def test_latins(self):
        for rows in (ONE, TWO, THREE, FOUR):
            self.assertEqual(check_latin(rows), rows)
            self.assertEqual(check_latin(as_lists(rows)), rows)

    def test_all_rows_of_three_numbers(self):
        lines = list(product((1, 2, 3), repeat=3))
        for rows in product(lines[::2], repeat=3):
            if is_latin(rows):
                self.assertEqual(check_latin(rows), rows)
            else:
                self.assertRaises(BadSquare, check_latin, rows)

    def test_none(self):
        asked = [check_latin, flipped, plain, choices, mate, swaps, lambda rows: renamed(rows, (1, 2)),
                 lambda rows: moved(rows, (0, 1), (0, 1)), lambda rows: are_square(rows, TWO),
                 lambda rows: are_square(TWO, rows)]
        for rows in NO_LATINS:
            for ask in asked:
                self.assertRaises(BadSquare, ask, rows)


class TestMade(unittest.TestCase):
    def test_cyclic(self):
        self.assertEqual(cyclic(1), ONE)
        self.assertEqual(cyclic(2), TWO)
        self.assertEqual(cyclic(3), THREE)
        self.assertEqual(cyclic(3, 2), ((1, 2, 3), (3, 1, 2), (2, 3, 1)))
        self.assertEqual(cyclic(5, step=2)[1:3], ((3, 4, 5, 1, 2), (5, 1, 2, 3, 4)))

    def test_each_step_of_each_size(self):
        for size in range(1, 10):
            for step in range(1, 12):
                rows = tuple(tuple((x + y * step) % size + 1 for x in range(size)) for y in range(size))
                if is_latin(rows):
                    self.assertEqual(cyclic(size, step), rows)
                else:
                    self.assertRaises(BadSize, cyclic, size, step)

    def test_no_latin(self):
        for size, step in ((0, 1), (-1, 1), (4, 2), (6, 3), (2, 0), (9, 6), (4, 4)):
            self.assertRaises(BadSize, cyclic, size, step)

    def test_all_latins(self):
        for size in (1, 2, 3):
            self.assertEqual(all_latins(size), tried_latins(size))
        found = all_latins(4)
        self.assertEqual((len(found), len(set(found)), list(found)), (576, 576, sorted(found)))
        self.assertTrue(all(is_latin(rows) for rows in found))
        due = [tuple(tuple(table[(y, x)] for x in range(4)) for y in range(4)) for table in solutions(latin(4))]
        self.assertEqual(list(found), due)

    def test_all_latins_of_no_size(self):
        for size in (0, -1, 5, 9):
            self.assertRaises(BadSize, all_latins, size)

    def test_orders(self):
        self.assertEqual(orders_of(3), [(1, 2, 3), (1, 3, 2), (2, 1, 3), (2, 3, 1), (3, 1, 2), (3, 2, 1)])
        self.assertEqual((orders_of(1), orders_of(0)), ([(1,)], [()]))
        self.assertEqual((len(orders_of(5)), orders_of(5)), (120, sorted(orders_of(5))))

    def test_apart(self):
        for one, other, due in (((1, 2), (2, 1), True), ((1, 2), (1, 3), False), ((1, 2), [2, 2], False), ((), (), True)):
            self.assertIs(apart(one, other), due)


class TestTurned(unittest.TestCase):
    def test_renamed(self):
        self.assertEqual(renamed(THREE, (3, 1, 2)), ((3, 1, 2), (1, 2, 3), (2, 3, 1)))
        self.assertEqual(renamed(as_lists(THREE), [1, 2, 3]), THREE)
        self.assertEqual(renamed(ONE, [1]), ONE)

    def test_renamed_by_no_order(self):
        for names in ((), (1, 2), (1, 2, 3, 4), (1, 1, 2), (0, 1, 2), (2, 3, 4)):
            self.assertRaises(BadSquare, renamed, THREE, names)

    def test_moved(self):
        self.assertEqual(moved(THREE, (1, 0, 2), (0, 1, 2)), ((2, 3, 1), (1, 2, 3), (3, 1, 2)))
        self.assertEqual(moved(THREE, (0, 1, 2), (1, 2, 0)), ((2, 3, 1), (3, 1, 2), (1, 2, 3)))
        self.assertEqual(moved(as_lists(FOUR), [3, 1, 0, 2], [2, 0, 1, 3]),
                         ((2, 4, 3, 1), (4, 2, 1, 3), (3, 1, 2, 4), (1, 3, 4, 2)))

    def test_moved_by_no_order(self):
        good = (0, 1, 2)
        for bad in ((), (0, 1), (1, 2, 3), (0, 0, 1), (0, 1, 2, 3), (-1, 0, 1)):
            self.assertRaises(BadSquare, moved, THREE, bad, good)
            self.assertRaises(BadSquare, moved, THREE, good, bad)

    def test_flipped(self):
        rows = ((1, 2, 3), (3, 1, 2), (2, 3, 1))
        self.assertEqual(flipped(rows), ((1, 3, 2), (2, 1, 3), (3, 2, 1)))
        for one in small_latins():
            self.assertEqual(flipped(flipped(as_lists(one))), one)
            self.assertEqual(flipped(one), tuple(zip(*one)))

    def test_plain(self):
        self.assertEqual(plain(((2, 1), (1, 2))), TWO)
        self.assertEqual(plain([[3, 1, 2], [2, 3, 1], [1, 2, 3]]), ((1, 2, 3), (2, 3, 1), (3, 1, 2)))

    def test_plain_renamed_then_in_order(self):
        for rows in small_latins():
            size = len(rows)
            names = {number: place for place, number in enumerate(rows[0], start=1)}
            found = plain(rows)
            self.assertEqual(found, tuple(sorted(tuple(names[number] for number in row) for row in rows)))
            self.assertEqual([row[0] for row in found], list(range(1, size + 1)))
            self.assertEqual(found[0], tuple(range(1, size + 1)))

    def test_handed_in_stays(self):
        rows, names = as_lists(THREE), [2, 3, 1]
        for ask in (check_latin, flipped, plain, choices, mate, swaps):
            ask(rows)
        renamed(rows, names)
        moved(rows, [0, 2, 1], [1, 0, 2])
        are_square(rows, rows)
        self.assertEqual((rows, names), (as_lists(THREE), [2, 3, 1]))


class TestAlike(unittest.TestCase):
    def test_are_square(self):
        self.assertIs(are_square(THREE, cyclic(3, 2)), True)
        self.assertIs(are_square(as_lists(THREE), THREE), False)
        self.assertIs(are_square(ONE, ONE), True)
        self.assertIs(are_square(TWO, TWO), False)

    def test_all_pairs_of_small_latins(self):
        for size in (1, 2, 3):
            for one, other in product(all_latins(size), repeat=2):
                pairs = {(one[y][x], other[y][x]) for y in range(size) for x in range(size)}
                self.assertIs(are_square(one, other), len(pairs) == size * size)

    def test_unlike_sizes(self):
        self.assertRaises(BadSquare, are_square, TWO, THREE)
        self.assertRaises(BadSquare, are_square, FOUR, ONE)


class TestChoices(unittest.TestCase):
    def test_against_all_orders_of_columns(self):
        for rows in small_latins():
            size = len(rows)
            due = [columns for columns in permutations(range(size))
                   if len({rows[y][x] for y, x in enumerate(columns)}) == size]
            self.assertEqual(choices(as_lists(rows)), tuple(due))

    def test_known_ones(self):
        self.assertEqual(choices(ONE), ((0,),))
        self.assertEqual(choices(TWO), ())
        self.assertEqual(choices(THREE), ((0, 1, 2), (1, 2, 0), (2, 0, 1)))
        self.assertEqual([len(choices(cyclic(size))) for size in (4, 5, 6, 7)], [0, 15, 0, 133])


def tried_cover(lots, size):
    for row in combinations(lots, size):
        if all(apart(one, other) for one, other in combinations(row, 2)):
            return list(row)
    return None


class TestMates(unittest.TestCase):
    def test_numbered_by_choices(self):
        self.assertEqual(mate(ONE), ONE)
        self.assertEqual(mate(THREE), ((1, 2, 3), (3, 1, 2), (2, 3, 1)))
        self.assertEqual(mate(as_lists(FOUR)), ((1, 2, 3, 4), (3, 4, 1, 2), (4, 3, 2, 1), (2, 1, 4, 3)))

    def test_none(self):
        self.assertIsNone(mate(TWO))
        self.assertIsNone(mate(cyclic(4)))
        self.assertIsNone(mate(cyclic(6)))

    def test_the_first_found_of_the_choices(self):
        for rows in small_latins():
            size = len(rows)
            found = mate(rows)
            due = tried_cover(choices(rows), size)
            if due is None:
                self.assertIsNone(found)
                if size < 4:
                    self.assertFalse([one for one in all_latins(size) if are_square(rows, one)])
            else:
                self.assertIs(are_square(rows, found), True)
                self.assertEqual([tuple(found[y].index(number) for y in range(size)) for number in range(1, size + 1)],
                                 due)

    def test_greater_ones(self):
        for rows in (cyclic(5), cyclic(7), cyclic(9, 2)):
            self.assertIs(are_square(rows, mate(rows)), True)

    def test_cover(self):
        lots = choices(FOUR)
        self.assertEqual(cover(lots, (), 4), tried_cover(lots, 4))
        self.assertEqual(cover(list(lots), [], 4), tried_cover(lots, 4))
        self.assertEqual(cover([(0, 1), (0, 2), (1, 0), (1, 1), (2, 2)], (), 2), [(0, 1), (1, 0)])
        self.assertEqual(cover([(0, 1), (0, 2), (1, 0), (1, 1), (2, 2)], (), 3), [(0, 1), (1, 0), (2, 2)])
        self.assertIsNone(cover([(0, 1), (0, 2), (1, 0), (1, 1), (2, 2)], (), 4))
        self.assertEqual(cover([(0, 2), (1, 1), (0, 1), (2, 0)], (), 3), [(0, 2), (1, 1), (2, 0)])

    def test_cover_behind_what_is_taken(self):
        lots = [(0, 1), (0, 2), (1, 0), (1, 1), (2, 2)]
        taken = [(0, 2)]
        self.assertEqual(cover(lots, taken, 2), [(0, 2), (1, 0)])
        self.assertEqual(cover(lots, taken, 1), [(0, 2)])
        self.assertIsNone(cover(lots, ((0, 2), (1, 1)), 3))
        self.assertEqual((taken, len(lots)), ([(0, 2)], 5))

    def test_cover_of_none(self):
        self.assertEqual(cover([], (), 0), [])
        self.assertEqual(cover([(0, 1)], (), 0), [])
        self.assertIsNone(cover([], (), 1))


class TestSwaps(unittest.TestCase):
    def test_known_ones(self):
        self.assertEqual(swaps(ONE), ())
        self.assertEqual(swaps(TWO), (((0, 0), (1, 1)),))
        self.assertEqual(swaps(THREE), ())
        self.assertEqual(swaps(cyclic(4)), (((0, 0), (2, 2)), ((0, 1), (2, 3)), ((1, 0), (3, 2)), ((1, 1), (3, 3))))

    def test_what_stays_a_latin(self):
        for rows in small_latins():
            size = len(rows)
            due = []
            for top, bottom in combinations(range(size), 2):
                for left, right in combinations(range(size), 2):
                    new = as_lists(rows)
                    for y in (top, bottom):
                        new[y][left], new[y][right] = new[y][right], new[y][left]
                    if is_latin(new):
                        due.append(((top, left), (bottom, right)))
            self.assertEqual(swaps(as_lists(rows)), tuple(due))


if __name__ == "__main__":
    unittest.main()
