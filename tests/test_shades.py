"""Point 22: shaded numbers, against going through all lots of squares."""

import unittest
from itertools import product

from boards_to_try import Numbers
from cluewright.errors import BadPaper, BadSize
from cluewright.shades import (check_numbers, check_shading, clashes, fewest_shades, shade_on, shadings, shown_shades,
                               sure_shades, twice)

BAD_ROWS = [(), ((),), ((1, 2), (1,)), [[1], []], [[1]] * 7, [[1] * 7], [[1] * 7] * 7]


def spots_of(rows):
    return list(product(range(len(rows)), range(len(rows[0]))))


def hang(spots):
    seen = list(spots)[:1]
    for y, x in seen:
        seen += [near for near in ((y + 1, x), (y - 1, x), (y, x + 1), (y, x - 1)) if near in spots and near not in seen]
    return len(seen) == len(spots)


def keeps(rows, lot):
    left = [spot for spot in spots_of(rows) if spot not in lot]
    lines = [[rows[y][x] for y, x in left if y == line] for line in range(len(rows))]
    lines += [[rows[y][x] for y, x in left if x == line] for line in range(len(rows[0]))]
    touching = any(abs(a - c) + abs(b - d) == 1 for a, b in lot for c, d in lot)
    return not touching and hang(left) and all(len(set(line)) == len(line) for line in lines)


def all_lots(spots):
    """Return all lots of squares, those with first squares ahead."""
    return [tuple(spot for spot, shaded in zip(spots, row) if shaded)
            for row in product((True, False), repeat=len(spots))]


def tried(rows):
    return tuple(lot for lot in all_lots(spots_of(rows)) if keeps(rows, lot))


def boards():
    """Return small boards: all of up to two by two, and thrown ones of up to three by three."""
    for high, wide in ((1, 1), (1, 2), (2, 1), (2, 2)):
        for row in product((1, 2), repeat=high * wide):
            yield tuple(row[y * wide:(y + 1) * wide] for y in range(high))
    numbers = Numbers(22)
    for place in range(60):
        high, wide = 1 + numbers.below(3), 3 - numbers.below(2)
        high, wide = (3, 3) if place % 2 else (high, wide)
        yield tuple(tuple(1 + numbers.below(4) for _ in range(wide)) for _ in range(high))
    for number in range(1, 4):
        yield ((number,) * 3,) * 3
        yield ((number,) * number,)
    yield ((1, 2, 3), (2, 3, 1), (3, 1, 2))
    yield ((1, 2, 3), (2, 3, 1), (3, 2, 2))


class TestNumbers(unittest.TestCase):
    def test_check_numbers(self):
        rows = [[1, -2], [30, 4]]
        self.assertEqual(check_numbers(rows), ((1, -2), (30, 4)))
        self.assertEqual(rows, [[1, -2], [30, 4]])
        self.assertEqual(check_numbers([[0] * 6] * 6), ((0,) * 6,) * 6)

    def test_refused(self):
        for rows in BAD_ROWS:
            for ask in (check_numbers, clashes, shadings, sure_shades, fewest_shades):
                self.assertRaises(BadSize, ask, rows)
            self.assertRaises(BadSize, check_shading, rows, ())
            self.assertRaises(BadSize, shown_shades, rows, ())

    def test_twice(self):
        for rows in boards():
            for lot in all_lots(spots_of(rows))[::5]:
                for y, x in spots_of(rows):
                    due = any(rows[a][b] == rows[y][x] and (a == y) != (b == x) and (a, b) not in lot
                              for a, b in spots_of(rows))
                    self.assertIs(twice(rows, (y, x), lot), due)
                    self.assertIs(twice([list(row) for row in rows], (y, x), {spot: True for spot in lot}), due)

    def test_clashes(self):
        self.assertEqual(clashes([[1]]), ())
        self.assertEqual(clashes([[1, 1, 1]]), (((0, 0), (0, 1)), ((0, 0), (0, 2)), ((0, 1), (0, 2))))
        for rows in boards():
            due = tuple((one, other) for one in spots_of(rows) for other in spots_of(rows) if one < other
                        and (one[0] == other[0] or one[1] == other[1]) and rows[one[0]][one[1]] == rows[other[0]][other[1]])
            self.assertEqual(clashes([list(row) for row in rows]), due)


class TestShadings(unittest.TestCase):
    def test_against_all_lots(self):
        seen = 0
        for rows in boards():
            due = tried(rows)
            seen += len(due)
            given = [list(row) for row in rows]
            self.assertEqual(shadings(given), due)
            self.assertEqual(given, [list(row) for row in rows])
            if due == ():
                self.assertRaises(BadPaper, sure_shades, rows)
                self.assertRaises(BadPaper, fewest_shades, rows)
                continue
            spots = spots_of(rows)
            sure = (tuple(spot for spot in spots if all(spot in lot for lot in due)),
                    tuple(spot for spot in spots if not any(spot in lot for lot in due)))
            self.assertEqual(sure_shades(given), sure)
            self.assertEqual(fewest_shades(given), min(due, key=len))
        self.assertGreater(seen, 200)

    def test_one_number_alone(self):
        self.assertEqual(shadings([[5]]), (((0, 0),), ()))
        self.assertEqual(check_shading([[5]], ((0, 0),)), 1)
        self.assertEqual(check_shading([[5]], ()), 0)
        self.assertEqual(sure_shades([[5]]), ((), ()))
        self.assertEqual(fewest_shades([[5]]), ())

    def test_all_squares_alike(self):
        self.assertEqual(shadings([[1, 1]]), (((0, 0),), ((0, 1),)))
        self.assertEqual(shadings([[1, 1], [1, 1]]), ())
        self.assertEqual(shadings([[1] * 6] * 6), ())

    def test_so_many(self):
        rows = ((1, 2, 3), (2, 3, 1), (3, 1, 2))
        due = shadings(rows)
        for many in (0, 1, 2, len(due), len(due) + 1):
            self.assertEqual(shadings(rows, many), due[:many])
        self.assertEqual(shadings(rows, most=None), due)

    def test_great_boards(self):
        rows = [[(y + x) % 6 + 1 for x in range(6)] for y in range(6)]
        for y, x in ((0, 0), (2, 3), (4, 1), (5, 5), (3, 4)):
            rows[y][x] = rows[y][x - 1]
        for lot in shadings(rows, 5):
            self.assertTrue(keeps(rows, lot))
        lot = fewest_shades(rows)
        self.assertTrue(keeps(rows, lot))
        shaded, bare = sure_shades(rows)
        self.assertTrue(set(shaded) <= set(lot) and not set(bare) & set(lot))

    def test_shade_on(self):
        for rows in list(boards())[20:60:3]:
            spots = tuple(spots_of(rows))
            due = tried(rows)
            for place in range(len(spots) + 1):
                for row in all_lots(spots[:place])[::3]:
                    whole = [lot for lot in due if tuple(spot for spot in lot if spot in spots[:place]) == row]
                    found = ["ahead"]
                    shade_on(rows, spots, row, place, None, found)
                    self.assertEqual(found, ["ahead"] + whole)
                    found = ["ahead"]
                    shade_on([list(line) for line in rows], list(spots), list(row), place, 2, found)
                    self.assertEqual(found, ["ahead"] + whole[:1])

    def test_check_shading(self):
        for rows in list(boards())[:50]:
            due = tried(rows)
            for lot in all_lots(spots_of(rows)):
                if lot in due:
                    self.assertEqual(check_shading(rows, list(lot[::-1])), len(lot))
                else:
                    self.assertRaises(BadPaper, check_shading, rows, lot)
        for lot in (((0, 0), (0, 0)), ((0, 2),), ((-1, 0),), ((1, 0),)):
            self.assertRaises(BadPaper, check_shading, [[1, 2]], lot)

    def test_shown_shades(self):
        self.assertEqual(shown_shades([[1, 0], [9, 1]], ((0, 0),)), ("*0", "91"))
        self.assertEqual(shown_shades(((3,),), []), ("3",))
        for rows in ([[10]], [[1, -1]], [[1], [12]]):
            self.assertRaises(BadSize, shown_shades, rows, ())
            self.assertRaises(BadSize, shown_shades, rows, ((0, 0),))


if __name__ == "__main__":
    unittest.main()
