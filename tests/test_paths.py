"""Point 15: ways through all squares and ways that join pairs, against going through all rows of squares."""

import unittest
from itertools import combinations, permutations, product

from boards_to_try import Numbers
from cluewright.errors import BadPaper, BadSize, BadSquare
from cluewright.paths import (check_links, check_marks, check_pairs, check_path, go_on, link_on, links, near_of, paths,
                              shortest, ways_between)

SIZES = [(1, 1), (1, 2), (2, 1), (1, 3), (3, 1), (2, 2), (1, 4), (1, 5), (5, 1), (2, 3), (3, 2), (1, 6), (6, 1)]
BAD_SIZES = [(0, 2), (2, 0), (10, 2), (2, 10)]


def spots_of(high, wide):
    return list(product(range(high), range(wide)))


def near(one, other, slant):
    down, right = abs(one[0] - other[0]), abs(one[1] - other[1])
    return max(down, right) == 1 if slant else down + right == 1


def is_way(row, slant=False):
    return all(near(one, other, slant) for one, other in zip(row, row[1:]))


def tried_paths(high, wide, slant):
    """Return all ways through all squares; permutations of squares in order are in order."""
    return [row for row in permutations(spots_of(high, wide)) if is_way(row, slant)]


def with_marks(rows, marks):
    return tuple(row for row in rows if all(row[number - 1] == spot for spot, number in marks.items()))


def tried_ways(high, wide):
    """Return a table of (start, end) to all ways between them, in order."""
    spots = spots_of(high, wide)
    found = {}
    for many in range(1, len(spots) + 1):
        for row in permutations(spots, many):
            if is_way(row):
                found.setdefault((row[0], row[-1]), []).append(row)
    return {ends: sorted(rows) for ends, rows in found.items()}


def tried_links(ways, pairs, full, size):
    """Return all tables of names to ways that share no square, in order."""
    names = sorted(pairs)
    found = []
    for rows in product(*[ways.get(tuple(pairs[name]), []) for name in names]):
        taken = [spot for row in rows for spot in row]
        if len(set(taken)) == len(taken) and (not full or len(taken) == size):
            found.append(dict(zip(names, rows)))
    return tuple(found)


def marks_to_try(high, wide):
    """Return tables of marks: none, each one, and some of two and three."""
    numbers = Numbers(high * 10 + wide)
    spots = spots_of(high, wide)
    tables = [{}] + [{spot: number} for spot in spots for number in range(1, len(spots) + 1)]
    for _ in range(40):
        many = min(len(spots), 2 + numbers.below(2))
        tables.append(dict(zip(numbers.some(spots, many), numbers.some(range(1, len(spots) + 1), many))))
    return tables


class TestNear(unittest.TestCase):
    def test_near_of(self):
        self.assertEqual(near_of((0, 0), 2, 2, False), ((0, 1), (1, 0)))
        self.assertEqual(near_of((0, 0), 2, 2, True), ((0, 1), (1, 0), (1, 1)))
        self.assertEqual(near_of((0, 0), 1, 1, True), ())
        for high, wide, slant in product((1, 2, 3, 9), (1, 2, 3, 9), (False, True)):
            for spot in spots_of(high, wide):
                due = tuple(one for one in spots_of(high, wide) if near(one, spot, slant))
                self.assertEqual(near_of(spot, high, wide, slant), due)


class TestMarks(unittest.TestCase):
    def test_marks_are_told_in_order(self):
        marks = {(1, 1): 4, (0, 0): 2}
        self.assertEqual(list(check_marks(marks, 2, 2).items()), [((0, 0), 2), ((1, 1), 4)])
        self.assertEqual(list(marks), [(1, 1), (0, 0)])
        self.assertEqual(check_marks({}, 1, 1), {})
        self.assertEqual(check_marks({(8, 8): 81}, 9, 9), {(8, 8): 81})

    def test_refused(self):
        for marks in ({(0, 2): 1}, {(2, 0): 1}, {(-1, 0): 1}, {(0, 0): 0}, {(0, 0): 5}, {(0, 0): -1},
                      {(0, 0): 1, (1, 1): 1}):
            self.assertRaises(BadSize, check_marks, marks, 2, 2)
            self.assertRaises(BadSize, paths, marks, 2, 2)
            self.assertRaises(BadSize, check_path, marks, (), 2, 2)
        for high, wide in BAD_SIZES:
            self.assertRaises(BadSquare, check_marks, {}, high, wide)
            self.assertRaises(BadSquare, check_marks, {(0, 0): 100}, high, wide)
            self.assertRaises(BadSquare, paths, {}, high, wide)
            self.assertRaises(BadSquare, check_path, {}, (), high, wide)


class TestPaths(unittest.TestCase):
    def test_against_all_rows_of_squares(self):
        for (high, wide), slant in product(SIZES, (False, True)):
            rows = tried_paths(high, wide, slant)
            for marks in marks_to_try(high, wide):
                given = dict(marks)
                self.assertEqual(paths(marks, high, wide, slant), with_marks(rows, marks), (high, wide, marks))
                self.assertEqual(marks, given)

    def test_three_by_three_against_all_rows_of_squares(self):
        for slant in (False, True):
            rows = tried_paths(3, 3, slant)
            self.assertEqual(paths({}, 3, 3, slant), tuple(rows))
            for marks in marks_to_try(3, 3):
                self.assertEqual(paths(marks, 3, 3, slant=slant), with_marks(rows, marks), marks)

    def test_one_square(self):
        self.assertEqual(paths({}, 1, 1), (((0, 0),),))
        self.assertEqual(paths({(0, 0): 1}, 1, 1, True), (((0, 0),),))
        self.assertEqual(paths({}, 1, 1, False, 0), ())

    def test_marks_that_leave_no_way(self):
        self.assertEqual(paths({(0, 0): 1, (1, 1): 2}, 2, 2), ())
        self.assertEqual(len(paths({(0, 0): 1, (1, 1): 2}, 2, 2, True)), 2)
        self.assertEqual(paths({(0, 1): 1}, 3, 3), ())

    def test_so_many(self):
        rows = paths({}, 2, 3)
        for many in (0, 1, 2, len(rows), len(rows) + 1):
            self.assertEqual(paths({}, 2, 3, most=many), rows[:many])
        self.assertEqual(paths({}, 2, 3, False, None), rows)

    def test_great_boards(self):
        snake = [(y, x if y % 2 == 0 else 8 - x) for y in range(9) for x in range(9)]
        marks = {spot: number for number, spot in enumerate(snake, 1) if number % 3 == 1}
        self.assertIn(tuple(snake), paths(marks, 9, 9))
        for row in paths({}, 9, 9, True, 3):
            self.assertTrue(check_path({}, row, 9, 9, True))

    def test_go_on(self):
        marks = {(0, 0): 1, (1, 2): 4}
        places = {1: (0, 0), 4: (1, 2)}
        rows = with_marks(tried_paths(2, 3, False), marks)
        for many in range(7):
            for row in sorted({row[:many] for row in tried_paths(2, 3, True)} | {((0, 0),) * many}):
                found = ["ahead"]
                go_on(marks, places, row, 2, 3, False, None, found)
                self.assertEqual(found, ["ahead"] + [one for one in rows if one[:many] == row])
                found = ["ahead"]
                go_on(marks, places, list(row), 2, 3, False, 1, found)
                self.assertEqual(found, ["ahead"])
        self.assertEqual((marks, places), ({(0, 0): 1, (1, 2): 4}, {1: (0, 0), 4: (1, 2)}))
        for row in (((0, 0), (0, 1), (0, 0)), ((0, -1), (0, 0)), ((0, 0), (0, 1), (0, 2)), ((2, 0),),
                    ((0, 0), (0, 1), (0, 0), (1, 0))):
            found = []
            go_on({}, {}, row, 2, 2, False, None, found)
            self.assertEqual(found, [])

    def test_check_path(self):
        for slant in (False, True):
            rows = tried_paths(2, 2, slant)
            for marks in marks_to_try(2, 2):
                for row in permutations(spots_of(2, 2)):
                    if row in with_marks(rows, marks):
                        self.assertIs(check_path(marks, list(row), 2, 2, slant), True)
                    else:
                        self.assertRaises(BadPaper, check_path, marks, row, 2, 2, slant)
        self.assertRaises(BadPaper, check_path, {}, ((0, 0), (1, 1), (0, 1), (1, 0)), 2, 2)
        for row in ((), ((0, 0), (0, 1), (1, 1)), ((0, 0), (0, 1), (1, 1), (1, 0), (0, 0)),
                    ((0, 0), (0, 1), (1, 1), (1, 2)), ((0, 0), (0, 0), (0, 1), (1, 1))):
            self.assertRaises(BadPaper, check_path, {}, row, 2, 2)


class TestPairs(unittest.TestCase):
    def test_pairs_are_told_in_order(self):
        pairs = {"b": [(0, 0), (0, 1)], "a": ((1, 1), (1, 0))}
        known = check_pairs(pairs, 2, 2)
        self.assertEqual(list(known.items()), [("a", ((1, 1), (1, 0))), ("b", ((0, 0), (0, 1)))])
        self.assertEqual(list(pairs.items()), [("b", [(0, 0), (0, 1)]), ("a", ((1, 1), (1, 0)))])
        self.assertEqual(check_pairs({}, 1, 1), {})

    def test_refused(self):
        wrong = [{"a": ()}, {"a": ((0, 0),)}, {"a": ((0, 0), (0, 1), (1, 1))}, {"a": ((0, 0), (0, 0))},
                 {"a": ((0, 0), (0, 1)), "b": ((0, 1), (1, 1))}, {"a": ((0, 0), (0, 2))}, {"a": ((-1, 0), (0, 0))}]
        for pairs in wrong:
            for full in (True, False):
                self.assertRaises(BadSize, links, pairs, 2, 2, full)
                self.assertRaises(BadSize, check_links, pairs, {}, 2, 2, full)
            self.assertRaises(BadSize, check_pairs, pairs, 2, 2)
            self.assertRaises(BadSize, shortest, pairs, 2, 2)
        for high, wide in BAD_SIZES:
            self.assertRaises(BadSquare, check_pairs, {"a": ((0, 0), (0, 1))}, high, wide)
            self.assertRaises(BadSize, check_pairs, {"a": ((0, 0), (0, 0))}, high, wide)
            self.assertRaises(BadSquare, links, {"a": ((0, 0), (0, 1))}, high, wide)
            self.assertRaises(BadSquare, shortest, {"a": ((0, 0), (0, 1))}, high, wide)


class TestLinks(unittest.TestCase):
    def check(self, ways, pairs, high, wide):
        given = dict(pairs)
        loose = tried_links(ways, pairs, False, high * wide)
        self.assertEqual(links(pairs, high, wide), tried_links(ways, pairs, True, high * wide), pairs)
        self.assertEqual(links(pairs, high, wide, False), loose, pairs)
        for table in links(pairs, high, wide, False):
            self.assertEqual(list(table), sorted(pairs))
        fewest = min(loose, key=lambda table: sum(len(row) for row in table.values()), default=None)
        self.assertEqual(shortest(pairs, high, wide), fewest, pairs)
        self.assertEqual(pairs, given)

    def test_one_pair_against_all_ways(self):
        for high, wide in SIZES:
            ways = tried_ways(high, wide)
            for ends in permutations(spots_of(high, wide), 2):
                self.check(ways, {"a": ends}, high, wide)

    def test_two_pairs_against_all_ways(self):
        for high, wide in SIZES:
            ways = tried_ways(high, wide)
            for one, two in permutations(combinations(spots_of(high, wide), 2), 2):
                if not set(one) & set(two):
                    self.check(ways, {"b": list(one), "a": two[::-1]}, high, wide)

    def test_three_pairs_against_all_ways(self):
        ways = tried_ways(2, 3)
        for row in permutations(spots_of(2, 3)):
            self.check(ways, {"a": row[:2], "b": row[2:4], "c": row[4:]}, 2, 3)

    def test_no_pairs(self):
        self.assertEqual(links({}, 2, 2), ())
        self.assertEqual(links({}, 2, 2, False), ({},))
        self.assertEqual(shortest({}, 2, 2), {})

    def test_so_many(self):
        pairs = {"a": ((0, 0), (2, 2))}
        rows = links(pairs, 3, 3, False)
        self.assertEqual(len(rows), 12)
        for many in (0, 1, 5, 12, 13):
            self.assertEqual(links(pairs, 3, 3, full=False, most=many), rows[:many])
        self.assertEqual(links(pairs, 3, 3, True, None), tuple(row for row in rows if len(row["a"]) == 9))

    def test_great_boards(self):
        pairs = {str(x): ((0, x), (8, x)) for x in range(9)}
        straight = {str(x): tuple((y, x) for y in range(9)) for x in range(9)}
        self.assertEqual(links(pairs, 9, 9), (straight,))
        self.assertEqual(shortest(pairs, 9, 9), straight)
        self.assertEqual(check_links(pairs, straight, 9, 9), 81)

    def test_link_on(self):
        known = check_pairs({"a": ((0, 0), (1, 0)), "b": ((1, 1), (1, 2)), "c": ((2, 0), (2, 2))}, 3, 3)
        ways = tried_ways(3, 3)
        all_tables = {full: tried_links(ways, known, full, 9) for full in (True, False)}
        for full, a_way in product((True, False), ways[known["a"]]):
            due = [table for table in all_tables[full] if table["a"] == a_way]
            for most in (None, 0, 1, 3):
                table = {"a": a_way}
                taken = {spot: True for spot in a_way}
                found = ["ahead"]
                link_on(known, ["b", "c"], table, taken, 3, 3, full, most, found)
                self.assertEqual(found, ["ahead"] + (due if most is None else due[:max(0, most - 1)]))
                self.assertEqual((table, taken), ({"a": a_way}, {spot: True for spot in a_way}))
        whole = all_tables[True][0]
        for full in (True, False):
            found = []
            link_on(known, (), whole, {spot: True for row in whole.values() for spot in row}, 3, 3, full, None, found)
            self.assertEqual(found, [whole])

    def test_link_on_takes_no_taken_square(self):
        pairs = {"a": ((0, 0), (0, 1))}
        for full, due in ((True, []), (False, [{"a": ((0, 0), (0, 1))}])):
            found = []
            link_on(pairs, ["a"], {}, {(1, 0): True}, 2, 2, full, None, found)
            self.assertEqual(found, due)
        found = []
        link_on({**pairs, "b": ((1, 0), (1, 1))}, ["a"], {"b": ((1, 0), (0, 0), (0, 1), (1, 1))}, {}, 2, 2, False, None,
                found)
        self.assertEqual(found, [])

    def test_ways_between(self):
        for high, wide in [(1, 1), (1, 3), (2, 2), (2, 3)]:
            ways = tried_ways(high, wide)
            spots = spots_of(high, wide)
            for start, end in product(spots, spots):
                others = [spot for spot in spots if spot not in (start, end)]
                for many in range(len(others) + 1):
                    for lot in combinations(others, many):
                        taken = {spot: True for spot in lot}
                        due = [row for row in ways.get((start, end), []) if not set(row) & set(lot)]
                        self.assertEqual(ways_between(start, end, taken, high, wide), tuple(due))
                        self.assertEqual(taken, {spot: True for spot in lot})

    def test_check_links(self):
        pairs = {"a": [(0, 0), (0, 1)], "b": ((1, 0), (1, 1))}
        table = {"b": [(1, 0), (1, 1)], "a": ((0, 0), (0, 1))}
        self.assertEqual(check_links(pairs, table, 2, 2), 4)
        self.assertEqual(check_links(pairs, table, 2, 3, False), 4)
        self.assertRaises(BadPaper, check_links, pairs, table, 2, 3)
        long = {"a": ((0, 0), (1, 0), (1, 1), (0, 1))}
        self.assertEqual(check_links({"a": pairs["a"]}, long, 2, 2), 4)
        self.assertRaises(BadPaper, check_links, {"a": ((0, 1), (0, 0))}, long, 2, 2)
        for wrong in ({}, {"a": table["a"]}, {**table, "c": ()}, {"a": table["a"], "c": table["b"]},
                      {"a": table["a"], "b": ((1, 1), (1, 0))}, {"a": table["a"], "b": ((1, 0),)},
                      {"a": table["a"], "b": ()}, {"a": table["a"], "b": ((1, 0), (0, 0), (0, 1), (1, 1))},
                      {"a": ((0, 0), (1, 0)), "b": ((0, 1), (1, 1))}):
            for full in (True, False):
                self.assertRaises(BadPaper, check_links, pairs, wrong, 2, 2, full)
        self.assertRaises(BadPaper, check_links, {"a": ((0, 0), (0, 2))}, {"a": ((0, 0), (0, 2))}, 1, 3, False)


if __name__ == "__main__":
    unittest.main()
