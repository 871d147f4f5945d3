"""Point 24: islands of told sizes and one water about them, against going through all tables of islands."""

import unittest
from itertools import combinations, product

from cluewright.errors import BadPaper, BadSize, BadSquare
from cluewright.rivers import check_hills, check_rivers, flow_on, pools, rivers, sure_water, water_of
from cluewright.squares import all_squares

SIZES = list(product((1, 2, 3), repeat=2))
BAD_SIZES = [(0, 2), (2, 0), (10, 2), (2, 10)]


def parts(spots):
    """Return the lots of squares that hang together by sides, in order."""
    left, found = sorted(spots), []
    while left:
        lot = [left.pop(0)]
        for y, x in lot:
            for near in ((y + 1, x), (y - 1, x), (y, x + 1), (y, x - 1)):
                if near in left:
                    left.remove(near)
                    lot.append(near)
        found.append(tuple(sorted(lot)))
    return found


def has_pool(spots):
    return any(all(near in spots for near in ((y, x + 1), (y + 1, x), (y + 1, x + 1))) for y, x in spots)


def lots(spots):
    return [lot for many in range(len(spots) + 1) for lot in combinations(spots, many)]


def by_hills(high, wide):
    """Return a table of heads and sizes to all tables of islands, in order."""
    found = {}
    spots = all_squares(high, wide)
    for land in lots(spots):
        water = [spot for spot in spots if spot not in land]
        if len(parts(water)) < 2 and not has_pool(water):
            islands = parts(land)
            for heads in product(*islands):
                table = dict(sorted(zip(heads, islands)))
                found.setdefault(tuple((head, len(table[head])) for head in table), []).append(table)
    return {hills: sorted(rows, key=lambda table: tuple(table.values())) for hills, rows in found.items()}


def all_hills(high, wide):
    """Return all tables of heads for which the board has room."""
    found = []
    for heads in lots(all_squares(high, wide)):
        for ends in combinations(range(1, high * wide + 1), len(heads)):
            sizes = [end - start for start, end in zip((0, *ends), ends)]
            found.append(tuple(zip(heads, sizes)))
    return found


class TestHills(unittest.TestCase):
    def test_check_hills(self):
        self.assertEqual(list(check_hills({(1, 1): 1, (0, 0): 2}, 2, 2).items()), [((0, 0), 2), ((1, 1), 1)])
        self.assertEqual(check_hills({}, 2, 2), {})
        self.assertEqual(check_hills({(0, 0): 4}, 2, 2), {(0, 0): 4})

    def test_refused(self):
        asked = [check_hills, rivers, sure_water, lambda hills, high, wide: check_rivers(hills, {}, high, wide)]
        for ask in asked:
            for hills in ({(0, 0): 5}, {(2, 0): 1}, {(0, 0): 0}, {(0, 0): 1, (1, 1): -1}, {(0, 0): 2, (1, 1): 3},
                          {(0, -1): 1}):
                self.assertRaises(BadSize, ask, hills, 2, 2)
            for high, wide in BAD_SIZES:
                self.assertRaises(BadSquare, ask, {}, high, wide)
                self.assertRaises(BadSquare, ask, {(0, 0): 1}, high, wide)


class TestPools(unittest.TestCase):
    def test_all_lots(self):
        for high, wide in SIZES:
            for lot in lots(all_squares(high, wide)):
                due = tuple((y, x) for y, x in lot
                            if all(near in lot for near in ((y, x + 1), (y + 1, x), (y + 1, x + 1))))
                self.assertEqual(pools(list(lot)[::-1], high, wide), due)

    def test_known_ones(self):
        self.assertEqual(pools(all_squares(2, 3), 2, 3), ((0, 0), (0, 1)))
        self.assertEqual(pools(all_squares(1, 9), 1, 9), ())
        self.assertEqual(pools((), 3, 3), ())


class TestRivers(unittest.TestCase):
    def test_all_tables_of_islands(self):
        for high, wide in SIZES:
            due = by_hills(high, wide)
            for hills, rows in due.items():
                found = rivers(dict(hills[::-1]), high, wide)
                self.assertIsInstance(found, tuple)
                self.assertEqual([list(table.items()) for table in found], [list(row.items()) for row in rows])
                water = high * wide - sum(size for _, size in hills)
                for table in found:
                    self.assertEqual(check_rivers(dict(hills), table, high, wide), water)

    def test_hills_of_all_kinds(self):
        for high, wide in SIZES:
            due = by_hills(high, wide)
            some = all_hills(high, wide)
            for hills in some if len(some) < 1000 else some[::7]:
                self.assertEqual(rivers(dict(hills), high, wide), tuple(due.get(hills, [])))

    def test_so_many(self):
        hills = {(0, 0): 2, (2, 2): 2}
        due = rivers(hills, 3, 3)
        self.assertGreater(len(due), 1)
        for most in range(len(due) + 2):
            self.assertEqual(rivers(hills, 3, 3, most), due[:most])
        self.assertEqual(rivers(hills, 3, 3, None), due)
        self.assertEqual(rivers({}, 1, 3, most=0), ())

    def test_no_hill(self):
        self.assertEqual(rivers({}, 1, 4), ({},))
        self.assertEqual(rivers({}, 2, 2), ())
        self.assertEqual(rivers({}, 1, 1), ({},))

    def test_a_hill_as_great_as_the_board(self):
        self.assertEqual(rivers({(0, 1): 4}, 2, 2), ({(0, 1): all_squares(2, 2)},))
        self.assertEqual(check_rivers({(0, 1): 4}, {(0, 1): all_squares(2, 2)}, 2, 2), 0)
        self.assertEqual(rivers({(0, 1): 2, (0, 0): 2}, 2, 2), ())

    def test_corner_and_side(self):
        self.assertEqual(rivers({(0, 0): 1, (1, 1): 1}, 2, 2), ())
        self.assertEqual(rivers({(0, 0): 1, (0, 1): 1}, 1, 3), ())
        self.assertEqual(rivers({(0, 0): 1, (1, 1): 1}, 2, 3), ())
        self.assertEqual(rivers({(0, 1): 1, (1, 2): 1, (2, 1): 1}, 3, 3), ())
        self.assertEqual(rivers({(0, 1): 1, (1, 0): 1}, 3, 3), ())
        self.assertEqual(rivers({(1, 1): 1, (0, 2): 1}, 3, 3), ({(0, 2): ((0, 2),), (1, 1): ((1, 1),)},))

    def test_greater_boards(self):
        hills = {(0, 2): 3, (1, 0): 2, (2, 4): 3, (4, 1): 3, (3, 2): 1}
        for table in rivers(hills, 5, 5):
            self.assertEqual(check_rivers(hills, table, 5, 5), 13)
        row = {(y, x): 1 for y in (1, 3) for x in (1, 3)}
        self.assertEqual(rivers(row, 5, 5), ({spot: (spot,) for spot in sorted(row)},))

    def test_flow_on(self):
        known = {(0, 0): 2, (2, 2): 2}
        due = rivers(known, 3, 3)
        for begun in due:
            table = {(0, 0): begun[(0, 0)]}
            found = ["here"]
            self.assertIsNone(flow_on(known, [(2, 2)], table, 3, 3, None, found))
            self.assertEqual(found, ["here"] + [row for row in due if row[(0, 0)] == begun[(0, 0)]])
            self.assertEqual(table, {(0, 0): begun[(0, 0)]})
            found = []
            flow_on(known, ((2, 2),), table, 3, 3, 1, found)
            self.assertEqual(len(found), 1)
        found = []
        flow_on(known, (), due[0], 3, 3, None, found)
        flow_on(known, (), {(0, 0): ((0, 0), (0, 1)), (2, 2): ((0, 2), (1, 2))}, 3, 3, None, found)
        self.assertEqual(found, [due[0]])

    def test_handed_in_stays(self):
        hills = {(2, 2): 2, (0, 0): 2}
        for ask in (rivers, check_hills, sure_water):
            ask(hills, 3, 3)
        self.assertEqual(list(hills.items()), [((2, 2), 2), ((0, 0), 2)])


class TestWater(unittest.TestCase):
    def test_water_of(self):
        self.assertEqual(water_of({(0, 0): ((0, 1), (0, 0)), (1, 2): [(1, 2)]}, 2, 3), ((0, 2), (1, 0), (1, 1)))
        self.assertEqual((water_of({}, 1, 2), water_of({(0, 0): ((0, 0),)}, 1, 1)), (((0, 0), (0, 1)), ()))
        for high, wide in BAD_SIZES:
            self.assertRaises(BadSquare, water_of, {}, high, wide)

    def test_sure_water_of_all_hills(self):
        for high, wide in SIZES:
            for hills, rows in by_hills(high, wide).items():
                spots = all_squares(high, wide)
                lands = [[spot for lot in table.values() for spot in lot] for table in rows]
                wet = tuple(spot for spot in spots if not any(spot in land for land in lands))
                dry = tuple(spot for spot in spots if all(spot in land for land in lands))
                self.assertEqual(sure_water(dict(hills), high, wide), (wet, dry))

    def test_no_way(self):
        for hills in ({}, {(0, 0): 1, (0, 1): 1}, {(0, 0): 1, (1, 1): 1}):
            self.assertRaises(BadPaper, sure_water, hills, 2, 2)

    def test_none(self):
        self.assertEqual(sure_water({(0, 0): 1}, 1, 1), ((), ((0, 0),)))
        self.assertEqual(sure_water({}, 1, 2), (((0, 0), (0, 1)), ()))


class TestCheckRivers(unittest.TestCase):
    HILLS = {(0, 0): 2, (2, 2): 2}
    GOOD = {(0, 0): ((0, 0), (1, 0)), (2, 2): ((1, 2), (2, 2))}

    def bad(self, table, hills=None, high=3, wide=3):
        self.assertRaises(BadPaper, check_rivers, hills or self.HILLS, table, high, wide)

    def test_good(self):
        self.assertEqual(check_rivers(self.HILLS, self.GOOD, 3, 3), 5)
        self.assertEqual(check_rivers(self.HILLS, {head: list(lot)[::-1] for head, lot in self.GOOD.items()}, 3, 3), 5)
        self.assertEqual(check_rivers({}, {}, 1, 3), 3)

    def test_something_changed(self):
        one, other = self.GOOD[(0, 0)], self.GOOD[(2, 2)]
        self.bad({})
        self.bad({(0, 0): one})
        self.bad({**self.GOOD, (0, 2): ()})
        self.bad({(0, 0): one, (1, 2): other})
        self.bad({(0, 0): one[:1], (2, 2): other})
        self.bad({(0, 0): other, (2, 2): one})
        self.bad({(0, 0): ((0, 0), (1, 1)), (2, 2): other})
        self.bad({(0, 0): ((0, 0), (0, 0)), (2, 2): other})
        self.bad({(0, 0): ((0, 0), (-1, 0)), (2, 2): other})
        self.bad({(0, 0): one, (2, 2): ((2, 2), (3, 2))})

    def test_touching(self):
        touching = {(0, 0): ((0, 0), (0, 1)), (1, 1): ((1, 1),)}
        self.bad(touching, {(0, 0): 2, (1, 1): 1}, 2, 3)
        self.bad({(0, 0): ((0, 0), (0, 1)), (0, 1): ((0, 1), (1, 1))}, {(0, 0): 2, (0, 1): 2}, 2, 3)
        corner = {(0, 2): ((0, 2), (0, 1)), (1, 0): ((1, 0), (2, 0)), (2, 2): ((2, 2),)}
        self.bad(corner, {(0, 2): 2, (1, 0): 2, (2, 2): 1})
        corner = {(0, 1): ((0, 0), (0, 1)), (1, 2): ((1, 2), (2, 2))}
        self.bad(corner, {(0, 1): 2, (1, 2): 2})
        self.assertEqual(check_rivers({(1, 1): 1, (2, 0): 1}, {(1, 1): ((1, 1),), (2, 0): ((2, 0),)}, 3, 3), 7)

    def test_a_pool_and_two_waters(self):
        self.bad({(0, 0): ((0, 0),)}, {(0, 0): 1}, 2, 3)
        self.bad({(0, 1): ((0, 1),)}, {(0, 1): 1}, 1, 3)
        self.bad({(0, 1): ((0, 1), (1, 1))}, {(0, 1): 2}, 2, 3)
        self.bad({}, {(0, 0): 1}, 1, 1)

    def test_all_lots(self):
        due = by_hills(2, 2)
        some = lots(all_squares(2, 2))
        for hills in all_hills(2, 2):
            for row in product(some, repeat=len(hills)) if len(hills) < 3 else ():
                table = dict(zip([head for head, _ in hills], row))
                if table in due.get(hills, []):
                    self.assertEqual(check_rivers(dict(hills), table, 2, 2), 4 - sum(dict(hills).values()))
                else:
                    self.assertRaises(BadPaper, check_rivers, dict(hills), table, 2, 2)


if __name__ == "__main__":
    unittest.main()
