"""Point 14: boards parted in lots about heads, against going through all partings."""

import unittest
from itertools import combinations, product

from boards_to_try import Numbers
from cluewright.errors import BadPaper, BadSize, BadSquare
from cluewright.squares import all_squares
from cluewright.walls import (boxes_from, check_heads, check_parting, edges_between, is_box, letters_of, lots_from,
                              part_on, partings, sums_kept)

SIZES = list(product((1, 2), (1, 2, 3))) + [(3, 2), (3, 1)]
BAD_SIZES = [(0, 2), (2, 0), (10, 2), (2, 10)]


def hang(spots):
    """Tell whether squares, one or more, hang together by sides."""
    left = list(spots)[1:]
    seen = list(spots)[:1]
    for y, x in seen:
        for near in ((y + 1, x), (y - 1, x), (y, x + 1), (y, x - 1)):
            if near in left:
                left.remove(near)
                seen.append(near)
    return left == []


def full_box(spots):
    ys, xs = [y for y, _ in spots], [x for _, x in spots]
    return len(spots) == (max(ys) - min(ys) + 1) * (max(xs) - min(xs) + 1)


def all_parts(spots):
    """Return all ways to put squares in lots, each of which hangs together."""
    if not spots:
        return [()]
    first, rest = spots[0], spots[1:]
    found = []
    for many in range(len(rest) + 1):
        for more in combinations(rest, many):
            if hang((first, *more)):
                left = tuple(spot for spot in rest if spot not in more)
                found += [((first, *more), *others) for others in all_parts(left)]
    return found


def by_heads(high, wide, box):
    """Return a table of heads and sizes to all partings with them, in order."""
    found = {}
    for parts in all_parts(all_squares(high, wide)):
        if not box or all(full_box(lot) for lot in parts):
            for heads in product(*parts):
                table = dict(sorted(zip(heads, parts)))
                found.setdefault(tuple((head, len(table[head])) for head in table), []).append(table)
    return {heads: sorted(rows, key=lambda table: tuple(table.values())) for heads, rows in found.items()}


def all_heads(high, wide):
    """Return all tables of heads whose sizes come to just the board."""
    spots = all_squares(high, wide)
    found = []
    for many in range(1, len(spots) + 1):
        for heads in combinations(spots, many):
            for cuts in combinations(range(1, len(spots)), many - 1):
                ends = (0, *cuts, len(spots))
                found.append(tuple((head, ends[at + 1] - ends[at]) for at, head in enumerate(heads)))
    return found


class TestHeads(unittest.TestCase):
    def test_check_heads(self):
        self.assertEqual(list(check_heads({(1, 1): 1, (0, 0): 3}, 2, 2).items()), [((0, 0), 3), ((1, 1), 1)])
        self.assertEqual(check_heads({(0, 0): 1}, 1, 1), {(0, 0): 1})

    def test_refused(self):
        asked = [check_heads, partings, lambda heads, high, wide: check_parting(heads, {}, high, wide)]
        for ask in asked:
            for heads in ({}, {(0, 0): 3}, {(0, 0): 5}, {(2, 0): 4}, {(0, 0): 4, (0, 1): 0}, {(0, 0): 5, (0, 1): -1},
                          {(0, 0): 3, (0, 2): 1}, {(0, 0): 4, (1, 1): 1}, {(-1, 0): 4}):
                self.assertRaises(BadSize, ask, heads, 2, 2)
            for high, wide in BAD_SIZES:
                self.assertRaises(BadSquare, ask, {(0, 0): 1}, high, wide)
                self.assertRaises(BadSquare, ask, {}, high, wide)


class TestLots(unittest.TestCase):
    def test_against_all_lots(self):
        numbers = Numbers(5)
        for _ in range(200):
            high, wide = 1 + numbers.below(3), 1 + numbers.below(4)
            spots = all_squares(high, wide)
            start = spots[numbers.below(len(spots))]
            free = {spot: True for spot in spots if numbers.below(4) > 0}
            left = [spot for spot in spots if spot in free or spot == start]
            for size in range(6):
                due = [lot for lot in combinations(left, size) if start in lot and hang(lot)]
                self.assertEqual(lots_from(start, size, free, high, wide), tuple(due))
                boxed = tuple(lot for lot in due if full_box(lot))
                self.assertEqual(boxes_from(start, size, free), boxed)

    def test_known_ones(self):
        free = {(0, 1): True, (1, 0): True, (1, 1): True}
        self.assertEqual(lots_from((0, 0), 1, {}, 2, 2), (((0, 0),),))
        self.assertEqual(lots_from((0, 0), 2, free, 2, 2), (((0, 0), (0, 1)), ((0, 0), (1, 0))))
        self.assertEqual(lots_from((0, 0), 4, free, 2, 2), (all_squares(2, 2),))
        self.assertEqual((lots_from((0, 0), 5, free, 2, 2), lots_from((0, 0), 0, free, 2, 2)), ((), ()))
        self.assertEqual(lots_from((0, 0), 2, {(0, 2): True}, 1, 3), ())
        self.assertEqual(boxes_from((0, 0), 2, free), (((0, 0), (0, 1)), ((0, 0), (1, 0))))
        self.assertEqual(boxes_from((0, 0), 4, free), (all_squares(2, 2),))
        self.assertEqual((boxes_from((0, 0), 3, free), boxes_from((3, 3), 1, {})), ((), (((3, 3),),)))

    def test_handed_in_stays(self):
        free = {(0, 1): True, (0, 0): True}
        lots_from((0, 0), 2, free, 1, 2)
        boxes_from((0, 0), 2, free)
        self.assertEqual(list(free), [(0, 1), (0, 0)])


class TestPartings(unittest.TestCase):
    def test_all_partings(self):
        for high, wide in SIZES:
            for box in (False, True):
                due = by_heads(high, wide, box)
                for heads in all_heads(high, wide):
                    rows = due.pop(heads, [])
                    found = partings(dict(heads[::-1]), high, wide, box)
                    self.assertIsInstance(found, tuple)
                    self.assertEqual([list(table.items()) for table in found], [list(row.items()) for row in rows])
                    for table in found:
                        self.assertEqual(check_parting(dict(heads), table, high, wide, box), len(heads))
                self.assertEqual(due, {})

    def test_so_many(self):
        heads = {(0, 0): 3, (1, 2): 3}
        due = partings(heads, 2, 3)
        self.assertEqual(len(due), 3)
        for most in (0, 1, 2, 3, 4):
            self.assertEqual(partings(heads, 2, 3, most=most), due[:most])
        self.assertEqual(partings(heads, 2, 3, True), due[:1])
        self.assertEqual(partings(heads, 2, 3, box=True, most=0), ())

    def test_size_one_and_one_alone(self):
        self.assertEqual(partings({(0, 0): 1}, 1, 1), ({(0, 0): ((0, 0),)},))
        self.assertEqual(partings({(1, 1): 6}, 2, 3), ({(1, 1): all_squares(2, 3)},))
        ones = {spot: 1 for spot in all_squares(3, 3)}
        self.assertEqual(partings(ones, 3, 3), ({spot: (spot,) for spot in ones},))
        self.assertEqual(partings({(0, 0): 1, (0, 1): 3}, 2, 2, True), ())
        self.assertEqual(len(partings({(0, 0): 1, (0, 1): 3}, 2, 2)), 1)

    def test_greater_boards(self):
        rows = ("aabbc", "adbec", "ddeec", "ffggg", "hffgi")
        lots = {}
        for spot in all_squares(5, 5):
            lots.setdefault(rows[spot[0]][spot[1]], []).append(spot)
        parting = {tuple(lot)[-1]: tuple(lot) for lot in lots.values()}
        heads = {head: len(lot) for head, lot in parting.items()}
        found = partings(heads, 5, 5)
        self.assertIn(parting, found)
        for table in found:
            self.assertEqual(check_parting(heads, table, 5, 5), 9)
        order = [tuple(table[head] for head in sorted(heads)) for table in found]
        self.assertEqual(order, sorted(set(order)))
        boxes = {(0, 0): 27, (4, 4): 27, (8, 8): 27}
        self.assertEqual([is_box(lot) for lot in partings(boxes, 9, 9, True)[0].values()], [True] * 3)

    def test_part_on(self):
        known = {(0, 0): 2, (0, 2): 2, (1, 1): 2}
        due = partings(known, 2, 3)
        self.assertEqual(len(due), 3)
        for begun in due:
            table = {(0, 0): begun[(0, 0)]}
            free = {spot: True for spot in all_squares(2, 3) if spot not in known and spot not in begun[(0, 0)]}
            found = ["here"]
            self.assertIsNone(part_on(known, [(0, 2), (1, 1)], table, free, 2, 3, False, None, found))
            self.assertEqual(found, ["here"] + [row for row in due if row[(0, 0)] == begun[(0, 0)]])
            self.assertEqual(table, {(0, 0): begun[(0, 0)]})
            found = []
            part_on(known, ((0, 2), (1, 1)), table, free, 2, 3, False, 1, found)
            self.assertEqual(len(found), 1)
        found = []
        part_on(known, (), due[0], {}, 2, 3, False, None, found)
        self.assertEqual(found, [due[0]])

    def test_handed_in_stays(self):
        heads = {(1, 2): 3, (0, 0): 3}
        partings(heads, 2, 3)
        check_heads(heads, 2, 3)
        self.assertEqual(list(heads.items()), [((1, 2), 3), ((0, 0), 3)])


class TestCheckParting(unittest.TestCase):
    HEADS = {(0, 0): 3, (1, 2): 3}
    GOOD = {(0, 0): ((0, 0), (0, 1), (1, 0)), (1, 2): ((0, 2), (1, 1), (1, 2))}

    def bad(self, table, box=False):
        self.assertRaises(BadPaper, check_parting, self.HEADS, table, 2, 3, box)

    def test_good(self):
        self.assertEqual(check_parting(self.HEADS, self.GOOD, 2, 3), 2)
        lists = {head: list(lot)[::-1] for head, lot in self.GOOD.items()}
        self.assertEqual(check_parting(self.HEADS, lists, 2, 3), 2)
        rows = {(0, 0): ((0, 0), (0, 1), (0, 2)), (1, 2): ((1, 0), (1, 1), (1, 2))}
        self.assertEqual(check_parting(self.HEADS, rows, 2, 3, box=True), 2)

    def test_something_changed(self):
        one, other = self.GOOD[(0, 0)], self.GOOD[(1, 2)]
        self.bad(self.GOOD, True)
        self.bad({})
        self.bad({(0, 0): one})
        self.bad({(0, 0): one, (1, 1): other})
        self.bad({**self.GOOD, (0, 1): ()})
        self.bad({(0, 0): one, (1, 2): other[:2]})
        self.bad({(0, 0): one, (1, 2): one})
        self.bad({(0, 0): one, (1, 2): other[1:] + ((1, 3),)})
        self.bad({(0, 0): other, (1, 2): one})
        self.bad({(0, 0): one[:2], (1, 2): other + one[2:]})
        self.bad({(0, 0): one + one[:1], (1, 2): other})
        self.bad({(0, 0): ((0, 0), (0, 1), (1, 1)), (1, 2): ((0, 2), (1, 0), (1, 2))})

    def test_all_lots_of_lots(self):
        due = by_heads(2, 2, False)
        lots = [lot for many in range(5) for lot in combinations(all_squares(2, 2), many)]
        for heads in all_heads(2, 2):
            for row in product(lots, repeat=len(heads)) if len(heads) < 3 else ():
                table = dict(zip([head for head, _ in heads], row))
                if table in due.get(heads, []):
                    self.assertEqual(check_parting(dict(heads), table, 2, 2), len(heads))
                else:
                    self.assertRaises(BadPaper, check_parting, dict(heads), table, 2, 2)


class TestTold(unittest.TestCase):
    def test_is_box(self):
        spots = all_squares(3, 3)
        for many in range(1, 10):
            for lot in combinations(spots, many):
                self.assertIs(is_box(list(lot)[::-1]), full_box(lot))
        self.assertIs(is_box(((4, 4),)), True)
        self.assertIs(is_box(((0, 0), (0, 0))), False)
        self.assertIs(is_box(()), False)

    def test_letters(self):
        table = {(1, 2): ((0, 2), (1, 1), (1, 2)), (0, 0): ((0, 0), (0, 1), (1, 0))}
        self.assertEqual(letters_of(table, 2, 3), ("aab", "abb"))
        self.assertEqual(letters_of({(0, 0): ((0, 0),)}, 1, 2), ("a.",))

    def test_twenty_six_and_twenty_seven(self):
        spots = all_squares(3, 9)
        table = {spot: (spot,) for spot in spots}
        self.assertRaises(BadSize, letters_of, table, 3, 9)
        fewer = {spot: (spot,) for spot in spots[:26]}
        self.assertEqual(letters_of(fewer, 3, 9), ("abcdefghi", "jklmnopqr", "stuvwxyz."))

    def test_edges_between(self):
        self.assertEqual(edges_between(TestCheckParting.GOOD), 3)
        self.assertEqual(edges_between({}), 0)
        for parts in all_parts(all_squares(2, 3)):
            table = {lot[-1]: lot for lot in parts}
            due = sum(1 for one, other in combinations(all_squares(2, 3), 2) if hang((one, other))
                      and not any(one in lot and other in lot for lot in parts))
            self.assertEqual(edges_between(table), due)

    def test_sums_kept(self):
        table = {(1, 2): ((0, 2), (1, 1), (1, 2)), (0, 0): ((0, 0), (0, 1), (1, 0))}
        self.assertEqual(sums_kept(table, {(0, 2): 4, (1, 2): 3, (0, 0): 1, (5, 5): 9}), {(0, 0): 1, (1, 2): 7})
        self.assertEqual(sums_kept(table, {}), {(0, 0): 0, (1, 2): 0})
        self.assertEqual(sums_kept({}, {(0, 0): 1}), {})


if __name__ == "__main__":
    unittest.main()
