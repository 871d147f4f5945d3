"""Point 13: loops along edges told by clues, against going through all lots of edges."""

import unittest
from itertools import combinations, product

from cluewright.errors import BadPaper, BadSize, BadSquare
from cluewright.loops import (about, check_clues, check_loop, clues_of, edges_of, inside, is_loop, lay_edges, loops,
                              may_go, near_corner, round_square)
from cluewright.squares import all_squares

SIZES = [(1, 1), (1, 2), (2, 1), (2, 2)]
BAD_SIZES = [(0, 2), (2, 0), (10, 2), (2, 10)]
ONE = (((0, 0), (0, 1)), ((0, 0), (1, 0)), ((0, 1), (1, 1)), ((1, 0), (1, 1)))
# Two squares that meet at a corner, and two that don't meet.
EIGHT = tuple(sorted(ONE + tuple(((a + 1, b + 1), (c + 1, d + 1)) for (a, b), (c, d) in ONE)))
FAR = tuple(sorted(ONE + tuple(((a, b + 2), (c, d + 2)) for (a, b), (c, d) in ONE)))


def tried_edges(high, wide):
    corners = list(product(range(high + 1), range(wide + 1)))
    return sorted((one, other) for one in corners for other in corners
                  if other in ((one[0] + 1, one[1]), (one[0], one[1] + 1)))


def all_lots(edges):
    """Return all lots of edges, the first ones taken ahead of left out."""
    rows = product((True, False), repeat=len(edges))
    return [tuple(edge for edge, taken in zip(edges, row) if taken) for row in rows]


def goes_round(edges):
    """Tell whether edges are one way round, by going along it."""
    if not edges or len(set(edges)) != len(edges):
        return False
    left = list(edges)
    start, now = left.pop(0)
    seen = [start]
    while now != start:
        nexts = [edge for edge in left if now in edge]
        if len(nexts) != 1 or now in seen:
            return False
        seen.append(now)
        left.remove(nexts[0])
        now = nexts[0][0] if nexts[0][1] == now else nexts[0][1]
    return left == []


def counts(edges, high, wide):
    table = {}
    for y, x in product(range(high), range(wide)):
        sides = [((y, x), (y, x + 1)), ((y, x), (y + 1, x)), ((y, x + 1), (y + 1, x + 1)), ((y + 1, x), (y + 1, x + 1))]
        table[(y, x)] = sum(1 for edge in sides if edge in edges)
    return table


def keeps(table, clues):
    return all(table[spot] == count for spot, count in clues.items())


ALL_LOOPS = {size: [lot for lot in all_lots(tried_edges(*size)) if goes_round(lot)] for size in SIZES}


def all_clues(high, wide):
    spots = list(product(range(high), range(wide)))
    for row in product((None, 0, 1, 2, 3, 4), repeat=len(spots)):
        yield {spot: count for spot, count in zip(spots, row) if count is not None}


class TestEdges(unittest.TestCase):
    def test_edges_of(self):
        self.assertEqual(edges_of(1, 1), ONE)
        for high, wide in product((1, 2, 3, 9), repeat=2):
            self.assertEqual(edges_of(high, wide), tuple(tried_edges(high, wide)))
        for high, wide in BAD_SIZES:
            self.assertRaises(BadSquare, edges_of, high, wide)

    def test_round_square(self):
        self.assertEqual(round_square((0, 0)), ONE)
        self.assertEqual(round_square((2, 5)), (((2, 5), (2, 6)), ((2, 5), (3, 5)), ((2, 6), (3, 6)), ((3, 5), (3, 6))))

    def test_near_corner(self):
        self.assertEqual(near_corner((2, 5)), (((1, 5), (2, 5)), ((2, 4), (2, 5)), ((2, 5), (2, 6)), ((2, 5), (3, 5))))
        for corner in product((1, 2), repeat=2):
            self.assertEqual(near_corner(corner), tuple(edge for edge in tried_edges(3, 3) if corner in edge))

    def test_check_clues(self):
        self.assertEqual(list(check_clues({(1, 1): 0, (0, 0): 4}, 2, 2).items()), [((0, 0), 4), ((1, 1), 0)])
        self.assertEqual(check_clues({}, 2, 2), {})

    def test_clues_refused(self):
        asked = [check_clues, loops, lambda clues, high, wide: check_loop(clues, ONE, high, wide)]
        for ask in asked:
            for clues in ({(2, 0): 1}, {(0, 2): 1}, {(-1, 0): 1}, {(0, -1): 1}, {(0, 0): -1}, {(0, 0): 5},
                          {(0, 0): 2, (1, 1): 9}):
                self.assertRaises(BadSize, ask, clues, 2, 2)
            for high, wide in BAD_SIZES:
                self.assertRaises(BadSquare, ask, {}, high, wide)
                self.assertRaises(BadSquare, ask, {(0, 0): 2}, high, wide)

    def test_clues_of(self):
        self.assertEqual(clues_of(ONE, 2, 2), {(0, 0): 4, (0, 1): 1, (1, 0): 1, (1, 1): 0})
        for high, wide in SIZES:
            for lot in all_lots(tried_edges(high, wide))[::5]:
                self.assertEqual(clues_of(list(lot), high, wide), counts(lot, high, wide))


class TestIsLoop(unittest.TestCase):
    def test_all_lots_of_edges(self):
        for size in SIZES:
            for lot in all_lots(tried_edges(*size)):
                self.assertIs(is_loop(lot), goes_round(lot))
        self.assertEqual([len(ALL_LOOPS[size]) for size in SIZES], [1, 3, 3, 13])

    def test_any_order(self):
        for lot in ALL_LOOPS[(2, 2)]:
            self.assertIs(is_loop(list(lot)[::-1]), True)
            self.assertIs(is_loop(lot[3:] + lot[:3]), True)
            self.assertIs(is_loop(lot + lot[:1]), False)
            self.assertIs(is_loop(lot[1:]), False)

    def test_none_twice_and_two_ways(self):
        self.assertIs(is_loop(()), False)
        self.assertIs(is_loop(EIGHT), False)
        self.assertIs(is_loop(FAR), False)
        self.assertIs(is_loop(ONE + ONE), False)
        self.assertIs(is_loop((ONE[0], ONE[0])), False)


class TestLoops(unittest.TestCase):
    def test_all_lots_whatever_the_clues(self):
        for size in SIZES:
            by_loop = [(lot, counts(lot, *size)) for lot in ALL_LOOPS[size]]
            for clues in all_clues(*size):
                due = tuple(lot for lot, table in by_loop if keeps(table, clues))
                self.assertEqual(loops(clues, *size), due, clues)

    def test_so_many(self):
        due = tuple(ALL_LOOPS[(2, 2)])
        for most in range(15):
            self.assertEqual(loops({}, 2, 2, most), due[:most])
        self.assertEqual(loops({}, 2, 2, None), due)
        self.assertEqual(loops({(0, 0): 1}, 1, 1, 0), ())

    def test_no_clue_nought_and_four(self):
        self.assertEqual(loops({}, 1, 1), (ONE,))
        self.assertEqual(loops({(0, 0): 4}, 2, 2), (ONE,))
        self.assertEqual(loops({(0, 0): 0}, 1, 1), ())
        self.assertEqual(loops({(0, 0): 0}, 1, 2), ())
        self.assertEqual(loops({(0, 0): 0}, 1, 3), (round_square((0, 2)),))
        self.assertEqual(loops({(0, 0): 4, (0, 1): 4}, 1, 2), ())
        self.assertEqual(loops({(0, 0): 4, (1, 1): 4}, 2, 2), ())
        self.assertEqual(loops({(0, 0): 4, (0, 2): 4}, 1, 3), ())

    def test_greater_boards(self):
        self.assertEqual([len(loops({}, size, size)) for size in (3, 4)], [213, 9349])
        for spots in (((0, 0), (0, 1), (1, 1)), ((1, 1), (1, 2), (2, 1), (3, 1), (3, 2)), all_squares(4, 5)):
            lot = about(spots)
            clues = counts(lot, 5, 6)
            self.assertEqual(loops(clues, 5, 6), (lot,))
            some = {spot: clues[spot] for spot in clues if sum(spot) % 2}
            for found in loops(some, 5, 6, 20):
                self.assertTrue(goes_round(found) and keeps(counts(found, 5, 6), some))

    def test_nine_by_nine(self):
        spots = [spot for spot in all_squares(9, 9) if spot[0] % 2 == 0 or spot[1] == 4]
        clues = counts(about(spots), 9, 9)
        self.assertEqual(loops(clues, 9, 9), (about(spots),))

    def test_handed_in_stays(self):
        clues = {(1, 1): 2, (0, 0): 2}
        loops(clues, 2, 2)
        edges = list(ONE)
        for ask in (is_loop, about):
            ask(edges if ask is is_loop else list(clues))
        inside(edges, 2, 2)
        clues_of(edges, 2, 2)
        self.assertEqual((list(clues.items()), edges), ([((1, 1), 2), ((0, 0), 2)], list(ONE)))


class TestLayEdges(unittest.TestCase):
    def test_what_begins_with_a_row(self):
        edges = tried_edges(2, 2)
        for clues in ({}, {(0, 0): 2, (1, 1): 1}, {(0, 1): 3}):
            due = [lot for lot in ALL_LOOPS[(2, 2)] if keeps(counts(lot, 2, 2), clues)]
            for place in (0, 1, 2, 5, 11, 12):
                for begun in all_lots(edges[:place])[::7]:
                    found = [ONE]
                    self.assertIsNone(lay_edges(clues, edges, begun, place, None, found))
                    same = [lot for lot in due if tuple(edge for edge in lot if edge in edges[:place]) == begun]
                    self.assertEqual(found, [ONE] + same)
                    found = [ONE]
                    lay_edges(clues, tuple(edges), list(begun), place, 2, found)
                    self.assertEqual(found, [ONE] + same[:1])

    def test_all_lots_of_a_row(self):
        edges = tried_edges(1, 2)
        for clues in ({}, {(0, 0): 3}):
            for place in range(len(edges) + 1):
                for begun in all_lots(edges[:place]):
                    due = [lot for lot in ALL_LOOPS[(1, 2)] if keeps(counts(lot, 1, 2), clues)
                           and tuple(edge for edge in lot if edge in edges[:place]) == begun]
                    found = []
                    lay_edges(clues, edges, begun, place, None, found)
                    self.assertEqual(found, due)


    def test_a_row_that_goes_round_already(self):
        edges = tried_edges(1, 3)
        due = [lot for lot in all_lots(edges) if goes_round(lot)]
        for place in (5, 8, 9, 10):
            for begun in all_lots(edges[:place]):
                found = []
                lay_edges({}, edges, begun, place, None, found)
                self.assertEqual(found, [lot for lot in due if tuple(e for e in lot if e in edges[:place]) == begun])


class TestMayGo(unittest.TestCase):
    def test_corners_and_clues(self):
        edges = tried_edges(1, 2)
        for clues in ({}, {(0, 0): 2}, {(0, 1): 0}, {(0, 0): 4, (0, 1): 1}):
            for place in range(len(edges) + 1):
                for row in all_lots(edges[:place]):
                    self.assertIs(may_go(clues, edges, row, place), self.told(clues, edges[place:], row))

    def told(self, clues, left, row):
        for corner in product(range(2), range(3)):
            many = sum(1 for edge in row if corner in edge)
            if many > 2 or (many == 1 and not [edge for edge in left if corner in edge]):
                return False
        here, more = counts(row, 1, 2), counts(left, 1, 2)
        return all(here[spot] <= clues[spot] <= here[spot] + more[spot] for spot in clues)

    def test_what_can_go_on_may(self):
        edges = tried_edges(2, 2)
        for lot in ALL_LOOPS[(2, 2)]:
            for place in range(len(edges) + 1):
                row = [edge for edge in lot if edge in edges[:place]]
                self.assertIs(may_go(counts(lot, 2, 2), edges, row, place), True)
        self.assertIs(may_go({}, edges, EIGHT, len(edges)), False)


class TestInside(unittest.TestCase):
    def test_about_and_inside(self):
        for high, wide in SIZES + [(2, 3), (3, 3)]:
            spots = all_squares(high, wide)
            for many in range(len(spots) + 1):
                for lot in combinations(spots, many):
                    found = about(list(lot))
                    due = tuple(edge for edge in tried_edges(high, wide)
                                if sum(1 for spot in lot if edge in round_square(spot)) == 1)
                    self.assertEqual(found, due)
                    if goes_round(due) and self.is_all(lot, due, high, wide):
                        self.assertEqual(inside(found, high, wide), lot)

    def is_all(self, lot, edges, high, wide):
        """Tell whether no bare square is closed in: a way out leads from each without crossing an edge."""
        outside = [(y, x) for y in range(-1, high + 1) for x in range(-1, wide + 1)]
        seen, waiting = {(-1, -1)}, [(-1, -1)]
        while waiting:
            y, x = waiting.pop()
            for near, edge in (((y - 1, x), ((y, x), (y, x + 1))), ((y + 1, x), ((y + 1, x), (y + 1, x + 1))),
                               ((y, x - 1), ((y, x), (y + 1, x))), ((y, x + 1), ((y, x + 1), (y + 1, x + 1)))):
                if near in outside and near not in seen and edge not in edges:
                    seen.add(near)
                    waiting.append(near)
        return sorted(set(all_squares(high, wide)) - seen) == sorted(lot)

    def test_every_loop_has_its_squares(self):
        for lot in loops({}, 3, 3):
            found = inside(lot, 3, 3)
            self.assertEqual(about(found), lot)
            self.assertEqual(list(found), sorted(found))
            self.assertEqual(inside(list(lot)[::-1], 3, 3), found)

    def test_no_loop(self):
        for edges in ((), ONE[:3], EIGHT, FAR, ONE + ONE[:1], ONE[:1]):
            self.assertRaises(BadPaper, inside, edges, 3, 3)

    def test_known_ones(self):
        self.assertEqual(about(()), ())
        self.assertEqual(about(((0, 0),)), ONE)
        self.assertEqual(about(((0, 0), (1, 1))), EIGHT)
        self.assertEqual(inside(about(((0, 0), (0, 1))), 2, 2), ((0, 0), (0, 1)))


class TestCheckLoop(unittest.TestCase):
    def test_all_lots_of_edges(self):
        for clues in ({}, {(0, 0): 2}, {(0, 0): 1, (1, 1): 4}, {(0, 1): 0}, {(0, 0): 2, (0, 1): 2, (1, 0): 2}):
            for lot in all_lots(tried_edges(2, 2))[::3] + ALL_LOOPS[(2, 2)]:
                if goes_round(lot) and keeps(counts(lot, 2, 2), clues):
                    self.assertEqual(check_loop(clues, list(lot)[::-1], 2, 2), len(lot))
                else:
                    self.assertRaises(BadPaper, check_loop, clues, lot, 2, 2)

    def test_something_changed(self):
        for lot in ALL_LOOPS[(2, 2)]:
            clues = counts(lot, 2, 2)
            self.assertEqual(check_loop(clues, lot, 2, 2), len(lot))
            for at in range(len(lot)):
                self.assertRaises(BadPaper, check_loop, clues, lot[:at] + lot[at + 1:], 2, 2)
                self.assertRaises(BadPaper, check_loop, clues, lot + lot[at:at + 1], 2, 2)
                far = ((lot[at][0][0] + 5, lot[at][0][1]), (lot[at][1][0] + 5, lot[at][1][1]))
                self.assertRaises(BadPaper, check_loop, clues, lot[:at] + (far,) + lot[at + 1:], 2, 2)
                self.assertRaises(BadPaper, check_loop, clues, lot[:at] + (lot[at][::-1],) + lot[at + 1:], 2, 2)
            for spot in clues:
                other = {**clues, spot: (clues[spot] + 1) % 5}
                self.assertRaises(BadPaper, check_loop, other, lot, 2, 2)

    def test_outside_the_board(self):
        self.assertEqual(check_loop({}, ONE, 1, 1), 4)
        self.assertRaises(BadPaper, check_loop, {}, round_square((0, 1)), 1, 1)
        self.assertRaises(BadPaper, check_loop, {}, EIGHT, 2, 2)
        self.assertRaises(BadPaper, check_loop, {}, FAR, 1, 3)
        self.assertRaises(BadPaper, check_loop, {}, (), 2, 2)


if __name__ == "__main__":
    unittest.main()
