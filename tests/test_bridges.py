"""Point 16: islands joined by bridges, against going through all tables of none, one and two."""

import unittest
from itertools import combinations, product

from boards_to_try import Numbers
from cluewright.bridges import (all_bridges, bridge_counts, build, check_bridges, check_islands, cross, hang_together,
                                may_build, pairs_of, sure_bridges)
from cluewright.errors import BadPaper, BadSize

NINE = list(product(range(3), repeat=2))
# A cross of islands: both lines would cross in the middle.
PLUS = ((0, 1), (1, 0), (1, 2), (2, 1))


def between(one, other):
    """Return the squares between two on a line."""
    (a, b), (c, d) = one, other
    return [(y, x) for y in range(min(a, c), max(a, c) + 1) for x in range(min(b, d), max(b, d) + 1)
            if (y, x) not in (one, other)]


def tried_pairs(islands):
    return tuple((one, other) for one, other in combinations(sorted(islands), 2)
                 if (one[0] == other[0] or one[1] == other[1])
                 and not any(spot in islands for spot in between(one, other)))


def hang(spots, pairs):
    seen = list(spots)[:1]
    for spot in seen:
        for pair in pairs:
            if spot in pair:
                seen += [one for one in pair if one not in seen]
    return len(seen) == len(spots)


def all_tables(spots):
    """Return all tables that cross nowhere and hang together, in order."""
    pairs = tried_pairs(spots)
    found = []
    for row in product((0, 1, 2), repeat=len(pairs)):
        table = {pair: many for pair, many in zip(pairs, row) if many}
        taken = [spot for one in table for spot in between(*one)]
        if len(set(taken)) == len(taken) and hang(spots, table):
            found.append(table)
    return found


def counts_of(spots, table):
    return {spot: sum(many for pair, many in table.items() if spot in pair) for spot in spots}


def by_counts(spots):
    """Return a table of rows of counts to all tables that keep them, in order."""
    found = {}
    for table in all_tables(spots):
        found.setdefault(tuple(counts_of(sorted(spots), table).values()), []).append(table)
    return found


class TestIslands(unittest.TestCase):
    def test_islands_are_told_in_order(self):
        islands = {(2, 1): 8, (0, 5): 1}
        self.assertEqual(list(check_islands(islands).items()), [((0, 5), 1), ((2, 1), 8)])
        self.assertEqual(list(islands), [(2, 1), (0, 5)])

    def test_refused(self):
        for islands in ({}, {(0, 0): 0}, {(0, 0): 9}, {(0, 0): 1, (0, 1): -1}, {(0, 0): 1, (0, 1): 9}):
            for ask in (check_islands, pairs_of, all_bridges, sure_bridges):
                self.assertRaises(BadSize, ask, islands)
            self.assertRaises(BadSize, check_bridges, islands, {})

    def test_pairs_of(self):
        self.assertEqual(pairs_of({(0, 0): 1}), ())
        for many in (1, 2, 3, 4, 9):
            for spots in combinations(NINE, many):
                islands = {spot: 1 for spot in reversed(spots)}
                self.assertEqual(pairs_of(islands), tried_pairs(spots))
        self.assertEqual(pairs_of({(0, 0): 1, (0, 8): 1, (8, 0): 1}), (((0, 0), (0, 8)), ((0, 0), (8, 0))))

    def test_cross(self):
        spots = list(product(range(4), repeat=2))
        pairs = [(one, other) for one, other in combinations(spots, 2) if one[0] == other[0] or one[1] == other[1]]
        for one, other in product(pairs, repeat=2):
            level = [pair for pair in (one, other) if pair[0][0] == pair[1][0]]
            due = len(level) == 1 and bool(set(between(*one)) & set(between(*other)))
            self.assertIs(cross(one, other), due, (one, other))


class TestBridges(unittest.TestCase):
    def check(self, spots, counts, due):
        islands = dict(reversed(list(zip(sorted(spots), counts))))
        given = dict(islands)
        rows = all_bridges(islands)
        self.assertEqual(rows, tuple(due), islands)
        for table in rows:
            self.assertEqual(list(table), sorted(table))
            self.assertEqual(check_bridges(islands, table), sum(table.values()))
        if due:
            pairs = tried_pairs(spots)
            sure = {pair: due[0].get(pair, 0) for pair in pairs
                    if len({table.get(pair, 0) for table in due}) == 1}
            self.assertEqual(list(sure_bridges(islands).items()), list(sure.items()))
        else:
            self.assertRaises(BadPaper, sure_bridges, islands)
        self.assertEqual(islands, given)

    def test_against_all_tables_of_three_islands(self):
        for many in (1, 2, 3):
            for spots in combinations(NINE, many):
                known = by_counts(spots)
                for counts in product(range(1, 6), repeat=many):
                    self.check(spots, counts, known.get(counts, []))

    def test_against_all_tables_of_five_islands(self):
        numbers = Numbers(16)
        lots = list(combinations(NINE, 4)) + list(combinations(NINE, 5))
        for spots in numbers.some(lots, 60) + [PLUS, (*PLUS, (0, 0)), (*PLUS, (0, 2)), (*PLUS, (1, 1))]:
            known = by_counts(spots)
            for counts in sorted(known):
                if 0 not in counts:
                    self.check(spots, counts, known[counts])
            for _ in range(5):
                counts = tuple(1 + numbers.below(4) for _ in spots)
                self.check(spots, counts, known.get(counts, []))

    def test_one_island_alone(self):
        for count in range(1, 9):
            self.assertEqual(all_bridges({(4, 4): count}), ())

    def test_bridges_that_cross(self):
        islands = {spot: 1 for spot in PLUS}
        table = {((0, 1), (2, 1)): 1, ((1, 0), (1, 2)): 1}
        self.assertEqual(all_bridges(islands), ())
        self.assertRaises(BadPaper, check_bridges, islands, table)

    def test_bridges_that_cross_and_hang_together(self):
        islands = {(0, 0): 2, (0, 1): 2, (1, 0): 2, (1, 2): 1, (2, 1): 1}
        table = {((0, 0), (0, 1)): 1, ((0, 0), (1, 0)): 1, ((0, 1), (2, 1)): 1, ((1, 0), (1, 2)): 1}
        self.assertTrue(hang(list(islands), table))
        self.assertEqual(counts_of(islands, table), islands)
        self.assertEqual(all_bridges(islands), ())
        self.assertRaises(BadPaper, check_bridges, islands, table)
        known, pairs = check_islands(islands), pairs_of(islands)
        for place in range(len(pairs) + 1):
            found = []
            build(known, pairs, {pair: table[pair] for pair in pairs[:place]}, place, None, found)
            self.assertEqual(found, [])

    def test_counts_without_hanging_together(self):
        islands = {(0, 0): 1, (0, 2): 1, (2, 0): 1, (2, 2): 1}
        self.assertEqual(all_bridges(islands), ())
        self.assertRaises(BadPaper, check_bridges, islands, {((0, 0), (0, 2)): 1, ((2, 0), (2, 2)): 1})

    def test_so_many(self):
        islands = {spot: 4 for spot in ((0, 0), (0, 2), (2, 0), (2, 2))}
        self.assertEqual(len(all_bridges(islands)), 1)
        islands = {(0, 0): 3, (0, 2): 3, (2, 0): 3, (2, 2): 3}
        rows = all_bridges(islands)
        self.assertEqual(len(rows), 2)
        for many in (0, 1, 2, 3):
            self.assertEqual(all_bridges(islands, many), rows[:many])
        self.assertEqual(all_bridges(islands, most=None), rows)

    def test_great_boards(self):
        islands = {(y, x): 8 if 0 < y < 8 and 0 < x < 8 else 6 for y in range(0, 9, 2) for x in range(0, 9, 2)}
        for y, x in product((0, 8), repeat=2):
            islands[(y, x)] = 4
        self.assertEqual(all_bridges(islands), ({pair: 2 for pair in pairs_of(islands)},))

    def test_build(self):
        spots = ((0, 0), (0, 1), (0, 2), (1, 0), (1, 1), (1, 2))
        pairs = tried_pairs(spots)
        counts, due = max(by_counts(spots).items(), key=lambda row: len(row[1]))
        known = dict(zip(spots, counts))
        self.assertGreater(len(due), 3)
        for place in range(len(pairs) + 1):
            for table in [{pair: row[pair] for pair in pairs[:place] if pair in row} for row in due] + [{}]:
                given = dict(table)
                begun = [row for row in due if {pair: row[pair] for pair in pairs[:place] if pair in row} == table]
                found = ["ahead"]
                build(known, pairs, table, place, None, found)
                self.assertEqual(found, ["ahead"] + begun)
                found = ["ahead"]
                build(known, pairs, table, place, 1, found)
                self.assertEqual(found, ["ahead"])
                self.assertEqual(table, given)
        crossed = {((0, 1), (2, 1)): 1, ((1, 0), (1, 2)): 1}
        found = []
        build({spot: 1 for spot in PLUS}, tried_pairs(PLUS), crossed, 2, None, found)
        self.assertEqual(found, [])

    def test_may_build(self):
        for spots in (((0, 0), (0, 1), (0, 2)), PLUS):
            pairs = tried_pairs(spots)
            for counts in product((1, 2, 3, 4), repeat=len(spots)):
                known = dict(zip(spots, counts))
                for place in range(len(pairs) + 1):
                    for row in product((0, 1, 2), repeat=place):
                        table = {pair: many for pair, many in zip(pairs, row) if many}
                        had = counts_of(spots, table)
                        room = counts_of(spots, {pair: 2 for pair in pairs[place:]})
                        due = all(had[spot] <= known[spot] <= had[spot] + room[spot] for spot in spots)
                        self.assertIs(may_build(known, pairs, table, place), due)

    def test_hang_together(self):
        known = {(0, 0): 1, (0, 1): 1, (0, 2): 1}
        one, two = tried_pairs(known)
        self.assertIs(hang_together(known, {one: 1, two: 2}), True)
        self.assertIs(hang_together(known, {one: 1}), False)
        self.assertIs(hang_together(known, {one: 1, two: 0}), False)
        self.assertIs(hang_together(known, {}), False)
        self.assertIs(hang_together({(3, 3): 2}, {}), True)
        for spots in combinations(NINE, 4):
            pairs = tried_pairs(spots)
            for many in range(len(pairs) + 1):
                for lot in combinations(pairs, many):
                    table = {pair: 1 for pair in reversed(lot)}
                    self.assertIs(hang_together({spot: 1 for spot in spots}, table), hang(spots, lot))

    def test_check_bridges(self):
        islands = {(0, 0): 2, (0, 2): 3, (2, 2): 1}
        good = {((0, 0), (0, 2)): 2, ((0, 2), (2, 2)): 1}
        self.assertEqual(check_bridges(islands, good), 3)
        for wrong in ({}, {((0, 0), (0, 2)): 2}, {**good, ((0, 0), (2, 2)): 1}, {**good, ((0, 2), (2, 2)): 2},
                      {((0, 0), (0, 2)): 3, ((0, 2), (2, 2)): 1}, {((0, 2), (0, 0)): 2, ((0, 2), (2, 2)): 1},
                      {((0, 0), (0, 2)): 2, ((0, 2), (2, 2)): 1, ((0, 0), (2, 0)): 0}):
            self.assertRaises(BadPaper, check_bridges, islands, wrong)
        self.assertRaises(BadPaper, check_bridges, {(0, 0): 1}, {})
        self.assertRaises(BadPaper, check_bridges, {(0, 0): 3, (0, 2): 3}, {((0, 0), (0, 2)): 3})
        self.assertRaises(BadPaper, check_bridges, {(0, 0): 1, (2, 2): 1}, {((0, 0), (2, 2)): 1})
        self.assertRaises(BadPaper, check_bridges, {(0, 0): 1, (0, 1): 2, (0, 2): 1}, {((0, 0), (0, 2)): 1})

    def test_bridge_counts(self):
        self.assertEqual(bridge_counts({}), {})
        table = {((0, 2), (2, 2)): 1, ((0, 0), (0, 2)): 2}
        self.assertEqual(list(bridge_counts(table).items()), [((0, 0), 2), ((0, 2), 3), ((2, 2), 1)])
        self.assertEqual(list(table), [((0, 2), (2, 2)), ((0, 0), (0, 2))])


if __name__ == "__main__":
    unittest.main()
