"""Point 11: hidden squares told by counts around: all ways, sure squares, chances, openings and clicks."""

import unittest
from itertools import combinations, product
from math import gcd

from boards_to_try import Numbers
from cluewright.errors import BadSize, BadSquare, NoWay
from cluewright.mines import (check_shown, counts_of, fewest_clicks, hidden_chances, may_hide, opened, place_on, safest,
                              shared, sure_squares, told_by, ways)
from cluewright.squares import all_squares

SIZES = list(product((1, 2, 3), repeat=2))


def lots(spots):
    """Return all lots of some squares, in order."""
    return sorted(row for many in range(len(spots) + 1) for row in combinations(spots, many))


def count_at(spot, row):
    return sum(1 for y, x in row if max(abs(y - spot[0]), abs(x - spot[1])) == 1)


def tried_ways(shown, high, wide, many=None):
    spots = [spot for spot in all_squares(high, wide) if spot not in shown]
    return tuple(row for row in lots(spots) if many in (None, len(row))
                 and all(count_at(spot, row) == shown[spot] for spot in shown))


def thrown_shown(seed):
    """Return (shown, rows, columns): some squares' counts by a lot that hides, now and then a wrong one."""
    numbers = Numbers(seed)
    high, wide = SIZES[numbers.below(9)]
    spots = all_squares(high, wide)
    hidden = [spot for spot in spots if numbers.below(3) == 0]
    shown = {spot: count_at(spot, hidden) for spot in spots if spot not in hidden and numbers.below(2) == 0}
    for spot in list(shown)[:1]:
        shown[spot] += numbers.below(5) // 4
    return (shown, high, wide)


def all_hidden():
    """Return (hidden, rows, columns) of all lots of hidden squares on boards of up to three by three."""
    return [(row, high, wide) for high, wide in SIZES for row in lots(all_squares(high, wide))]


class TestCounts(unittest.TestCase):
    def test_shared(self):
        for one, other in product(range(13), repeat=2):
            self.assertEqual(shared(one, other), gcd(one, other))
        self.assertEqual((shared(12, 18), shared(0, 5), shared(7, 3)), (6, 5, 1))

    def test_counts_of_all_lots(self):
        for hidden, high, wide in all_hidden():
            due = {spot: count_at(spot, hidden) for spot in all_squares(high, wide)}
            self.assertEqual(counts_of(list(hidden), high, wide), due)

    def test_counts_of_squares_that_hide_too(self):
        self.assertEqual(counts_of(((0, 0), (0, 1)), 1, 3), {(0, 0): 1, (0, 1): 1, (0, 2): 1})
        self.assertEqual(counts_of((), 1, 2), {(0, 0): 0, (0, 1): 0})

    def test_counts_refused(self):
        for high, wide in ((0, 3), (3, 10), (-1, 1)):
            self.assertRaises(BadSquare, counts_of, (), high, wide)

    def test_told_by(self):
        self.assertEqual(told_by(((0, 0),), ((1, 1), (0, 2)), 2, 3), {(0, 2): 0, (1, 1): 1})
        self.assertEqual(told_by([], [], 2, 3), {})
        for hidden, high, wide in all_hidden()[::5]:
            bare = [spot for spot in all_squares(high, wide) if spot not in hidden]
            self.assertEqual(told_by(hidden, bare, high, wide), {spot: count_at(spot, hidden) for spot in bare})

    def test_told_by_refused(self):
        for spots in (((0, 0),), ((0, 1), (0, 0)), ((2, 0),), ((0, -1),), ((0, 3),)):
            self.assertRaises(BadSize, told_by, ((0, 0),), spots, 2, 3)
        self.assertRaises(BadSquare, told_by, (), (), 0, 3)
        self.assertRaises(BadSquare, told_by, ((0, 0),), ((0, 0),), 2, 10)

    def test_check_shown(self):
        self.assertEqual(check_shown({(1, 1): 0, (0, 0): 8}, 2, 2), {(0, 0): 8, (1, 1): 0})
        self.assertEqual(list(check_shown({(1, 1): 0, (0, 0): 8}, 2, 2)), [(0, 0), (1, 1)])
        self.assertEqual(check_shown({}, 2, 2), {})

    def test_shown_refused(self):
        asked = [check_shown, ways, sure_squares, lambda shown, high, wide: hidden_chances(shown, high, wide, 1),
                 lambda shown, high, wide: safest(shown, high, wide, 1)]
        for ask in asked:
            for shown in ({(0, 0): -1}, {(2, 0): 0}, {(0, 2): 1}, {(0, 0): 0, (-1, 0): 0}, {(0, 0): 0, (1, 1): -3}):
                self.assertRaises(BadSize, ask, shown, 2, 2)
            for high, wide in ((0, 2), (2, 0), (10, 2), (2, 10)):
                self.assertRaises(BadSquare, ask, {(0, 0): 0}, high, wide)
                self.assertRaises(BadSquare, ask, {(0, 0): -1}, high, wide)
        for ask in asked[1:]:
            self.assertRaises(BadSquare, ask, {}, 2, 10)


class TestWays(unittest.TestCase):
    def test_all_lots_that_fit_what_a_lot_shows(self):
        for hidden, high, wide in all_hidden():
            bare = [spot for spot in all_squares(high, wide) if spot not in hidden]
            for shown in (bare, bare[::2], bare[1::3]):
                table = {spot: count_at(spot, hidden) for spot in shown}
                due = tried_ways(table, high, wide) if high * wide < 9 or len(table) > 3 else None
                if due is not None:
                    self.assertEqual(ways(table, high, wide), due)
                    self.assertEqual(ways(table, high, wide, len(hidden)),
                                     tuple(row for row in due if len(row) == len(hidden)))

    def test_thrown(self):
        for seed in range(150):
            shown, high, wide = thrown_shown(seed)
            for many in (None, 0, 1, 2, 4, high * wide, high * wide + 1, -1):
                self.assertEqual(ways(shown, high, wide, many), tried_ways(shown, high, wide, many))

    def test_nothing_shown(self):
        self.assertEqual(ways({}, 1, 2), ((), ((0, 0),), ((0, 0), (0, 1)), ((0, 1),)))
        for high, wide in SIZES:
            self.assertEqual(ways({}, high, wide), tuple(lots(all_squares(high, wide))))

    def test_none_hidden_and_all_hidden(self):
        self.assertEqual(ways({(0, 0): 0}, 2, 2), ((),))
        self.assertEqual(ways({(0, 0): 3}, 2, 2), (((0, 1), (1, 0), (1, 1)),))
        self.assertEqual(ways({}, 2, 2, 0), ((),))
        self.assertEqual(ways({}, 2, 2, many=4), (all_squares(2, 2),))
        self.assertEqual(ways({}, 2, 2, 5), ())
        self.assertEqual(ways({(0, 0): 0}, 1, 1), ((),))
        self.assertEqual(ways({(0, 0): 1}, 1, 1), ())
        self.assertEqual(ways({(0, 0): 4}, 2, 2), ())

    def test_greater_boards(self):
        hidden = ((0, 3), (1, 7), (2, 2), (4, 4), (4, 5), (6, 1), (7, 7), (8, 0), (8, 8))
        bare = [spot for spot in all_squares(9, 9) if spot not in hidden]
        self.assertEqual(ways(told_by(hidden, bare, 9, 9), 9, 9), (hidden,))
        some = told_by(hidden, [spot for spot in bare if (spot[0] + spot[1]) % 3], 9, 9)
        found = ways(some, 9, 9, 9)
        self.assertIn(hidden, found)
        self.assertEqual(list(found), sorted(found))

    def test_handed_in_stays(self):
        shown = {(1, 1): 1, (0, 0): 1}
        for ask in (ways, sure_squares, check_shown):
            ask(shown, 2, 2)
        hidden_chances(shown, 2, 2, 1)
        self.assertEqual(list(shown.items()), [((1, 1), 1), ((0, 0), 1)])

    def test_place_on(self):
        known = {(0, 0): 1}
        spots = ((0, 1), (1, 0), (1, 1), (1, 2))
        for place in range(5):
            for begun in lots(spots[:place]):
                for many in (None, 1, 2):
                    found = [((9, 9),)]
                    self.assertIsNone(place_on(known, spots, begun, place, 2, 3, many, found))
                    due = [begun + row for row in lots(spots[place:])]
                    due = [row for row in due if count_at((0, 0), row) == 1 and many in (None, len(row))]
                    self.assertEqual(found, [((9, 9),)] + due)
        self.assertEqual(known, {(0, 0): 1})

    def test_may_hide(self):
        spots = ((0, 1), (1, 0), (1, 1), (1, 2))
        for count in range(5):
            known = {(0, 0): count, (0, 2): 1}
            for here in lots(spots):
                for left in lots([spot for spot in spots if spot not in here]):
                    due = all(any(count_at(spot, here + more) == known[spot] for more in lots(left)) for spot in known)
                    self.assertIs(may_hide(known, here, left, 2, 3), due)
        self.assertIs(may_hide({}, (), (), 2, 3), True)


class TestSure(unittest.TestCase):
    def test_against_all_ways(self):
        for seed in range(150):
            shown, high, wide = thrown_shown(seed)
            for many in (None, 1, 2, 3):
                rows = tried_ways(shown, high, wide, many)
                if not rows:
                    self.assertRaises(NoWay, sure_squares, shown, high, wide, many)
                    continue
                spots = [spot for spot in all_squares(high, wide) if spot not in shown]
                always = tuple(spot for spot in spots if all(spot in row for row in rows))
                never = tuple(spot for spot in spots if not any(spot in row for row in rows))
                self.assertEqual(sure_squares(shown, high, wide, many), (always, never))

    def test_known_ones(self):
        self.assertEqual(sure_squares({(0, 0): 3}, 2, 2), (((0, 1), (1, 0), (1, 1)), ()))
        self.assertEqual(sure_squares({(0, 1): 1}, 1, 4, 2), (((0, 3),), ()))
        self.assertEqual(sure_squares({(0, 1): 0}, 1, 4, 1), (((0, 3),), ((0, 0), (0, 2))))
        self.assertEqual(sure_squares({}, 1, 2, 2), (((0, 0), (0, 1)), ()))
        self.assertEqual(sure_squares({}, 1, 2, 0), ((), ((0, 0), (0, 1))))
        self.assertEqual(sure_squares({}, 1, 2), ((), ()))
        self.assertRaises(NoWay, sure_squares, {(0, 0): 1}, 1, 1)
        self.assertRaises(NoWay, sure_squares, {}, 1, 2, 3)


class TestChances(unittest.TestCase):
    def test_against_all_ways(self):
        for seed in range(150):
            shown, high, wide = thrown_shown(seed)
            for many in (0, 1, 2, 3):
                rows = tried_ways(shown, high, wide, many)
                if not rows:
                    self.assertRaises(NoWay, hidden_chances, shown, high, wide, many)
                    self.assertRaises(NoWay, safest, shown, high, wide, many)
                    continue
                spots = [spot for spot in all_squares(high, wide) if spot not in shown]
                found = hidden_chances(shown, high, wide, many)
                self.assertEqual(list(found), spots)
                for spot, (top, low) in found.items():
                    self.assertEqual(top * len(rows), low * sum(1 for row in rows if spot in row))
                    self.assertEqual(gcd(top, low), 1)
                if spots:
                    times = {spot: sum(1 for row in rows if spot in row) for spot in spots}
                    self.assertEqual(safest(shown, high, wide, many), min(spots, key=lambda one: (times[one], one)))
                else:
                    self.assertRaises(NoWay, safest, shown, high, wide, many)

    def test_known_ones(self):
        self.assertEqual(hidden_chances({(0, 1): 1}, 1, 4, 1), {(0, 0): (1, 2), (0, 2): (1, 2), (0, 3): (0, 1)})
        self.assertEqual(hidden_chances({(0, 1): 1}, 1, 4, 2), {(0, 0): (1, 2), (0, 2): (1, 2), (0, 3): (1, 1)})
        self.assertEqual(hidden_chances({}, 2, 2, 3), {spot: (3, 4) for spot in all_squares(2, 2)})
        self.assertEqual(safest({(0, 1): 1}, 1, 4, 1), (0, 3))
        self.assertEqual(safest({(0, 1): 1}, 1, 4, 2), (0, 0))

    def test_none_left(self):
        self.assertEqual(hidden_chances({(0, 0): 0, (0, 1): 0}, 1, 2, 0), {})
        self.assertRaises(NoWay, safest, {(0, 0): 0, (0, 1): 0}, 1, 2, 0)
        self.assertRaises(NoWay, hidden_chances, {(0, 0): 0, (0, 1): 0}, 1, 2, 1)


def tried_opened(hidden, spot, high, wide):
    seen = {spot}
    while True:
        bare = [one for one in seen if count_at(one, hidden) == 0]
        more = seen | {one for one in all_squares(high, wide) if any(count_at(one, [near]) for near in bare)}
        if more == seen:
            return tuple(sorted(seen))
        seen = more


class TestOpened(unittest.TestCase):
    def test_all_lots(self):
        for hidden, high, wide in all_hidden():
            for spot in all_squares(high, wide):
                if spot in hidden:
                    self.assertRaises(BadSize, opened, hidden, spot, high, wide)
                else:
                    self.assertEqual(opened(list(hidden), spot, high, wide), tried_opened(hidden, spot, high, wide))

    def test_known_ones(self):
        self.assertEqual(opened((), (1, 1), 3, 3), all_squares(3, 3))
        self.assertEqual(opened(((0, 3),), (0, 0), 1, 5), ((0, 0), (0, 1), (0, 2)))
        self.assertEqual(opened(((0, 3),), (0, 2), 1, 5), ((0, 2),))

    def test_refused(self):
        for spot in ((0, 0), (3, 0), (0, 3), (-1, 0)):
            self.assertRaises(BadSize, opened, ((0, 0),), spot, 3, 3)
        self.assertRaises(BadSquare, opened, (), (0, 0), 0, 3)
        self.assertRaises(BadSquare, opened, (), (0, 0), 3, 10)


class TestClicks(unittest.TestCase):
    def test_all_lots(self):
        for hidden, high, wide in all_hidden():
            bare = [spot for spot in all_squares(high, wide) if spot not in hidden]
            lots_opened = {spot: tried_opened(hidden, spot, high, wide) for spot in bare}
            due, seen = [], set()
            for spot in sorted(bare, key=lambda one: (count_at(one, hidden) > 0, one)):
                if spot not in seen:
                    due.append(spot)
                    seen |= set(lots_opened[spot])
            found = fewest_clicks(list(hidden), high, wide)
            self.assertEqual(found, tuple(sorted(due)))
            for fewer in combinations(bare, len(found) - 1) if found and high * wide < 9 else ():
                self.assertNotEqual({one for spot in fewer for one in lots_opened[spot]}, set(bare))

    def test_known_ones(self):
        self.assertEqual(fewest_clicks((), 3, 3), ((0, 0),))
        self.assertEqual(fewest_clicks(all_squares(2, 2), 2, 2), ())
        self.assertEqual(fewest_clicks(((0, 3),), 1, 8), ((0, 0), (0, 5)))
        self.assertEqual(fewest_clicks(((0, 1),), 1, 5), ((0, 0), (0, 3)))

    def test_refused(self):
        self.assertRaises(BadSquare, fewest_clicks, (), 10, 3)
        self.assertRaises(BadSquare, fewest_clicks, (), 3, 0)


if __name__ == "__main__":
    unittest.main()
