"""Point 25: pairs laid on a board of numbers, against going through all ways to lay them."""

import unittest
from itertools import combinations, permutations, product

from boards_to_try import Numbers
from cluewright.bones import (all_bones, bone_at, chains, check_field, check_laying, forced, lay_on, layings, places_of)
from cluewright.errors import BadPaper, BadSize, BadSquare

SIZES = {0: [(1, 2), (2, 1)], 1: [(1, 6), (2, 3), (3, 2), (6, 1)], 2: [(2, 6), (3, 4), (4, 3), (6, 2), (1, 12)]}


def spots_of(high, wide):
    return list(product(range(high), range(wide)))


def tilings(high, wide):
    """Return all ways to part a board in lots of two squares beside each other, to the right ahead of below."""
    pairs = [(one, other) for one, other in combinations(spots_of(high, wide), 2)
             if other in ((one[0], one[1] + 1), (one[0] + 1, one[1]))]
    ways = [row for row in combinations(pairs, high * wide // 2)
            if len({spot for pair in row for spot in pair}) == high * wide]
    return sorted(ways, key=lambda row: [one[0] != other[0] for one, other in row])


TILINGS = {size: tilings(*size) for many in SIZES for size in SIZES[many]}


def tried_bones(most):
    return [(low, high) for low, high in product(range(most + 1), repeat=2) if low <= high]


def tried_layings(rows):
    found = []
    for way in TILINGS[(len(rows), len(rows[0]))]:
        bones = [tuple(sorted((rows[a][b], rows[c][d]))) for (a, b), (c, d) in way]
        if len(set(bones)) == len(bones):
            found.append(dict(sorted(zip(bones, way))))
    return tuple(found)


def thrown_field(numbers, most, size):
    """Return rows of numbers on which all pairs may be laid."""
    high, wide = size
    bones = numbers.some(tried_bones(most), len(tried_bones(most)))
    ways = TILINGS[size]
    table = {}
    for bone, pair in zip(bones, ways[numbers.below(len(ways))]):
        flip = numbers.below(2)
        table[pair[0]], table[pair[1]] = bone[flip], bone[1 - flip]
    return tuple(tuple(table[(y, x)] for x in range(wide)) for y in range(high))


def fields():
    """Return (greatest number, rows): all of the smallest fields, and thrown ones."""
    for most in (0, 1):
        for high, wide in SIZES[most]:
            for row in product(range(most + 1), repeat=high * wide):
                yield most, tuple(row[y * wide:(y + 1) * wide] for y in range(high))
    numbers = Numbers(25)
    for _ in range(25):
        for size in SIZES[2]:
            yield 2, thrown_field(numbers, 2, size)
            yield 2, tuple(tuple(numbers.below(3) for _ in range(size[1])) for _ in range(size[0]))


class TestBones(unittest.TestCase):
    def test_all_bones(self):
        self.assertEqual(all_bones(0), ((0, 0),))
        self.assertEqual(all_bones(1), ((0, 0), (0, 1), (1, 1)))
        for most in range(7):
            self.assertEqual(all_bones(most), tuple(tried_bones(most)))
        for most in (-1, 7, 8):
            self.assertRaises(BadSize, all_bones, most)
            for ask in (check_field, layings, places_of, forced):
                self.assertRaises(BadSize, ask, ((0, 0),), most)
            self.assertRaises(BadSize, check_laying, ((0, 0),), most, {})

    def test_check_field(self):
        rows = [[0, 0, 1], [0, 1, 1]]
        self.assertEqual(check_field(rows, 1), ((0, 0, 1), (0, 1, 1)))
        self.assertEqual(rows, [[0, 0, 1], [0, 1, 1]])
        wrong = [((), 0), (((),), 0), (((0, 0), (0,)), 0), (((0,),), 0), (((0, 0, 0),), 0), (((0, 0), (0, 0)), 1),
                 (((0, 0, 1), (0, 1)), 1), (((0, 0, 1), (0, 1, 2)), 1), (((0, 0, 1), (0, 1, -1)), 1), (((0, 1),), 0),
                 (((0, 0, 1, 1), (0, 1)), 1), (((0, 0), (), (0, 1, 1, 1)), 1)]
        for rows, most in wrong:
            for ask in (check_field, layings, places_of, forced):
                self.assertRaises(BadSize, ask, rows, most)
            self.assertRaises(BadSize, check_laying, rows, most, {})

    def test_bone_at(self):
        rows = ((3, 1), (1, 0))
        self.assertEqual(bone_at(rows, (0, 0), (0, 1)), (1, 3))
        self.assertEqual(bone_at(rows, (0, 1), (0, 0)), (1, 3))
        self.assertEqual(bone_at(rows, (0, 1), (1, 0)), (1, 1))

    def test_places_of(self):
        places = places_of(((0, 0, 1), (1, 0, 0)), 1)
        self.assertEqual(list(places), [(0, 0), (0, 1), (1, 1)])
        self.assertEqual(places[(1, 1)], ())
        self.assertEqual(places[(0, 0)], (((0, 0), (0, 1)), ((0, 1), (1, 1)), ((1, 1), (1, 2))))
        for most, rows in fields():
            high, wide = len(rows), len(rows[0])
            due = {bone: [] for bone in tried_bones(most)}
            for one, other in combinations(spots_of(high, wide), 2):
                if abs(one[0] - other[0]) + abs(one[1] - other[1]) == 1:
                    due[tuple(sorted((rows[one[0]][one[1]], rows[other[0]][other[1]])))].append((one, other))
            self.assertEqual(list(places_of([list(row) for row in rows], most).items()),
                             [(bone, tuple(lots)) for bone, lots in due.items()])
            self.assertEqual(forced(rows, most), tuple(bone for bone in due if len(due[bone]) == 1))

    def test_a_pair_with_one_place(self):
        self.assertEqual(forced(((0, 0),), 0), ((0, 0),))
        self.assertEqual(forced(((0, 0, 1), (1, 0, 0)), 1), ())
        self.assertEqual(forced(((0, 0, 0), (0, 1, 1)), 1), ((1, 1),))


class TestLayings(unittest.TestCase):
    def test_against_all_ways(self):
        seen = 0
        for most, rows in fields():
            due = tried_layings(rows)
            seen += len(due)
            given = [list(row) for row in rows]
            told = layings(given, most)
            self.assertEqual(told, due, rows)
            self.assertEqual(given, [list(row) for row in rows])
            for table in told:
                self.assertEqual(list(table), tried_bones(most))
                if len(rows[0]) < 10:
                    self.assertEqual(check_laying(given, most, table), len(table))
        self.assertGreater(seen, 150)

    def test_all_bones_of_nought(self):
        self.assertEqual(layings(((0, 0),), 0), ({(0, 0): ((0, 0), (0, 1))},))
        self.assertEqual(layings([[0], [0]], 0), ({(0, 0): ((0, 0), (1, 0))},))

    def test_so_many(self):
        numbers = Numbers(26)
        for _ in range(20):
            rows = thrown_field(numbers, 2, (3, 4))
            due = tried_layings(rows)
            for many in (0, 1, 2, len(due), len(due) + 1):
                self.assertEqual(layings(rows, 2, many), due[:many])
            self.assertEqual(layings(rows, 2, first=None), due)

    def test_great_fields(self):
        bones = list(all_bones(6))
        # Each row of seven pairs side by side.
        rows = [[value for bone in bones[k:k + 4] for value in bone] for k in range(0, 28, 4)]
        straight = {bone: ((k // 4, 2 * (k % 4)), (k // 4, 2 * (k % 4) + 1)) for k, bone in enumerate(bones)}
        found = layings(rows, 6)
        self.assertEqual(found[0], straight)
        for table in found:
            self.assertEqual(check_laying(rows, 6, table), 28)

    def test_lay_on(self):
        numbers = Numbers(27)
        for _ in range(8):
            rows = thrown_field(numbers, 2, (3, 4))
            spots = spots_of(3, 4)
            due = tried_layings(rows)
            for whole in due:
                in_order = sorted(whole.items(), key=lambda pair: pair[1])
                for many in range(7):
                    table = dict(in_order[:many])
                    taken = {spot: True for lot in table.values() for spot in lot}
                    given = (dict(table), dict(taken))
                    begun = [one for one in due if all(one[bone] == table[bone] for bone in table)]
                    found = ["ahead"]
                    lay_on(rows, spots, taken, table, None, found)
                    self.assertEqual(found, ["ahead"] + begun)
                    found = ["ahead"]
                    lay_on([list(row) for row in rows], tuple(spots), taken, table, 2, found)
                    self.assertEqual(found, ["ahead"] + begun[:1])
                    self.assertEqual((table, taken), given)

    def test_check_laying(self):
        rows = ((0, 0, 1), (0, 1, 1))
        good = {(0, 0): ((0, 0), (0, 1)), (0, 1): ((1, 0), (1, 1)), (1, 1): ((0, 2), (1, 2))}
        self.assertEqual(check_laying(rows, 1, {bone: list(lot[::-1]) for bone, lot in reversed(good.items())}), 3)
        down = {(0, 0): ((0, 0), (1, 0)), (0, 1): ((0, 1), (0, 2)), (1, 1): ((1, 1), (1, 2))}
        self.assertEqual(check_laying(rows, 1, down), 3)
        for wrong in ({}, {bone: good[bone] for bone in ((0, 0), (0, 1))}, {**good, (2, 2): ((0, 0), (0, 1))},
                      {**good, (0, 0): ((0, 0), (1, 0))}, {**good, (0, 0): ((0, 0), (0, 0))},
                      {**good, (0, 0): ((0, 0), (0, 3))}, {**good, (0, 0): ((0, 0),)},
                      {**good, (0, 0): (), (0, 1): ((0, 0), (0, 1), (1, 0), (1, 1))},
                      {**good, (0, 0): good[(0, 1)], (0, 1): good[(0, 0)]},
                      {(0, 0): ((0, 0), (1, 0)), (0, 1): ((0, 1), (1, 2)), (1, 1): ((0, 2), (1, 1))}):
            self.assertRaises(BadPaper, check_laying, rows, 1, wrong)
        wide = ((0, 0, 0, 1, 0, 2, 1, 1, 1, 2, 2, 2),)
        table = layings(wide, 2)[0]
        self.assertRaises(BadSquare, check_laying, wide, 2, table)
        self.assertRaises(BadPaper, check_laying, wide, 2, {})


class TestChains(unittest.TestCase):
    def tried(self, bones, count):
        found = set()
        for row in permutations(bones, count):
            for ways in product((1, -1), repeat=count):
                laid = [bone[::way] for bone, way in zip(row, ways)]
                if all(one[1] == other[0] for one, other in zip(laid, laid[1:])):
                    found.add((laid[0][0], *[bone[1] for bone in laid]))
        return tuple(sorted(found))

    def test_against_all_rows(self):
        lots = [[], [(0, 0)], [(0, 1)], [(0, 0), (1, 1)], [(1, 2), (0, 1), (1, 1)], list(all_bones(1)),
                list(all_bones(2)), [(0, 1), (0, 2), (1, 2), (2, 3)]]
        for bones in lots:
            for count in range(1, len(bones) + 2):
                given = list(bones)
                self.assertEqual(chains(bones, count), self.tried(bones, count))
                self.assertEqual(chains(tuple(bones[::-1]), count), self.tried(bones, count))
                self.assertEqual(bones, given)

    def test_known(self):
        self.assertEqual(chains([(0, 1)], 1), ((0, 1), (1, 0)))
        self.assertEqual(chains([(2, 2)], 1), ((2, 2),))
        self.assertEqual(chains([(0, 1)], 2), ())
        self.assertEqual(chains((), 1), ())
        for count in (0, -1):
            self.assertRaises(BadSize, chains, [(0, 1)], count)
            self.assertRaises(BadSize, chains, [], count)


if __name__ == "__main__":
    unittest.main()
