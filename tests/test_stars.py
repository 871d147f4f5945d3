"""Point 18: stars in rows, columns and lots, and partners beside posts, against going through all lots."""

import unittest
from itertools import combinations, product

from boards_to_try import Numbers
from cluewright.errors import BadPaper, BadSize, BadSquare, BadText
from cluewright.stars import (check_many, check_partners, check_stars, join_on, may_hold, partners, put_on,
                              row_choices, stars)

BAD_ROWS = [(), ("",), ("ab", "a"), ["a", ""]]
NO_BOARDS = [("ab",), ("a", "b"), ("aa", "aa"), ("ab", "ba", "ab"), ("ab", "cd"), ("abc", "abc", "abd")]
FOUR = ("aabb", "aabb", "ccdd", "ccdd")
EIGHT = ("aaaabbbb", "aaaabbbb", "ccccdddd", "ccccdddd", "eeeeffff", "eeeeffff", "gggghhhh", "gggghhhh")


def touch(one, other):
    return one != other and abs(one[0] - other[0]) < 2 and abs(one[1] - other[1]) < 2


def apart(spots):
    return not any(touch(one, other) for one, other in combinations(spots, 2))


def counted(rows, lot):
    """Return how many squares of a lot each row, column and letter has."""
    letters = sorted(set("".join(rows)))
    return [[sum(1 for y, _ in lot if y == line) for line in range(len(rows))],
            [sum(1 for _, x in lot if x == line) for line in range(len(rows))],
            [sum(1 for y, x in lot if rows[y][x] == letter) for letter in letters]]


def tried_stars(rows, many):
    size = len(rows)
    return tuple(lot for lot in combinations(product(range(size), repeat=2), size * many)
                 if apart(lot) and all(count == many for counts in counted(rows, lot) for count in counts))


def tried_rows(rows, lot=()):
    """Return all lots of two stars, by going through all rows that keep columns and don't touch."""
    y = len(lot) // 2
    if y == len(rows):
        return [lot] if all(count == 2 for counts in counted(rows, lot) for count in counts) else []
    found = []
    for one, other in combinations(range(len(rows)), 2):
        more = (*lot, (y, one), (y, other))
        if apart(more[-4:]) and all([x for _, x in more].count(line) < 3 for line in (one, other)):
            found += tried_rows(rows, more)
    return found


def thrown_boards():
    """Return boards of four by four with four letters."""
    numbers = Numbers(4)
    found = [FOUR, ("abcd",) * 4, ("aaaa", "bbbb", "cccc", "dddd"), ("abbb", "cccc", "dddd", "dddd")]
    while len(found) < 25:
        text = "".join("abcd"[numbers.below(4)] for _ in range(16))
        if len(set(text)) == 4:
            found.append(tuple(text[y * 4:y * 4 + 4] for y in range(4)))
    return found


class TestStars(unittest.TestCase):
    def test_check_many(self):
        self.assertEqual(check_many(["a"], 1), {"a": ((0, 0),)})
        lots = check_many(["ba", "ba"], 3)
        self.assertEqual(list(lots.items()), [("a", ((0, 1), (1, 1))), ("b", ((0, 0), (1, 0)))])
        for many in (0, -1):
            self.assertRaises(BadSize, check_many, ["a"], many)
            self.assertRaises(BadSize, stars, ["a"], many)
            self.assertRaises(BadSize, check_stars, ["a"], many, ())
        for rows in NO_BOARDS:
            for ask in (check_many, stars):
                self.assertRaises(BadSize, ask, rows, 1)
            self.assertRaises(BadSize, check_stars, rows, 1, ())
        for rows in BAD_ROWS:
            for many in (0, 1):
                for ask in (check_many, stars):
                    self.assertRaises(BadText, ask, rows, many)
                self.assertRaises(BadText, check_stars, rows, many, ())

    def test_against_all_lots(self):
        self.assertEqual(stars(["a"], 1), (((0, 0),),))
        self.assertEqual(stars(["a"], 2), ())
        self.assertEqual(stars(["ab", "ab"], 1), ())
        seen = 0
        for rows in thrown_boards():
            for many in (1, 2):
                due = tried_stars(rows, many) if many == 1 else ()
                self.assertEqual(stars(list(rows), many), due, rows)
                seen += len(due)
        self.assertGreater(seen, 9)

    def test_so_many(self):
        rows = ("abcd",) * 4
        due = stars(rows, 1)
        self.assertEqual(due, (((0, 1), (1, 3), (2, 0), (3, 2)), ((0, 2), (1, 0), (2, 3), (3, 1))))
        for many in (0, 1, 2, 3):
            self.assertEqual(stars(rows, 1, many), due[:many])
        self.assertEqual(stars(rows, 1, most=None), due)

    def test_two_stars(self):
        due = stars(EIGHT, 2)
        self.assertEqual(due, tuple(tried_rows(EIGHT)))
        self.assertEqual(len(due), 2)
        for lot in due:
            self.assertTrue(apart(lot))
            self.assertEqual(counted(EIGHT, lot), [[2] * 8] * 3)
            self.assertEqual(check_stars(EIGHT, 2, lot), 16)

    def test_no_limit_of_nine(self):
        rows = ["abcdefghijk"] * 11
        for lot in stars(rows, 1, 2):
            self.assertEqual(counted(rows, lot), [[1] * 11] * 3)
            self.assertRaises(BadSquare, check_stars, rows, 1, lot)

    def test_put_on(self):
        for rows in thrown_boards()[:12]:
            letters = list(check_many(rows, 1))
            due = tried_stars(rows, 1)
            for y in range(5):
                for row in {lot[:y] for lot in due} | {tuple((line, line) for line in range(y)), ()}:
                    whole = [lot for lot in due if lot[:y] == row and len(row) == y]
                    found = ["ahead"]
                    put_on(rows, letters, 1, row, y, None, found)
                    self.assertEqual(found, ["ahead"] + whole, (rows, row, y))
                    found = ["ahead"]
                    put_on(rows, tuple(letters), 1, list(row), y, 2, found)
                    self.assertEqual(found, ["ahead"] + whole[:1])

    def test_row_choices(self):
        self.assertEqual(row_choices(4, 2, 1), [((1, 0), (1, 2)), ((1, 0), (1, 3)), ((1, 1), (1, 3))])
        for size, many in product(range(1, 8), range(1, 6)):
            line = [(3, x) for x in range(size)]
            self.assertEqual(row_choices(size, many, 3), [lot for lot in combinations(line, many) if apart(lot)])

    def test_may_hold(self):
        for rows in thrown_boards()[:6]:
            letters = sorted(set("".join(rows)))
            for many, y in product((1, 2, 4), range(5)):
                for here in combinations([(0, 0), (0, 2), (1, 1), (2, 0)], 2):
                    had = counted(rows, here)[2]
                    left = ["".join(rows[y:]).count(letter) for letter in letters]
                    due = all(one <= many <= one + more for one, more in zip(had, left))
                    self.assertIs(may_hold(rows, letters, many, here, y), due)
        self.assertIs(may_hold(("ab", "ab"), ("a",), 1, ((0, 1),), 2), False)
        self.assertIs(may_hold(("ab", "ab"), ("b",), 1, ((0, 1),), 2), True)

    def test_check_stars(self):
        due = tried_stars(FOUR, 1)
        for lot in combinations(product(range(4), repeat=2), 4):
            if lot in due:
                self.assertEqual(check_stars(list(FOUR), 1, lot[::-1]), 4)
            else:
                self.assertRaises(BadPaper, check_stars, FOUR, 1, lot)
        good = due[0]
        for lot in ((), good[:3], (*good, good[0]), (*good, (0, 4)), (*good[:3], (4, 0)), (*good[:3], (-1, 1)),
                    ((0, 0), (1, 2), (2, 1), (3, 3)), ((0, 0), (1, 1), (2, 2), (3, 3))):
            self.assertRaises(BadPaper, check_stars, FOUR, 1, lot)
        # All counts are kept, but two touch.
        self.assertRaises(BadPaper, check_stars, ("abcd",) * 4, 1, ((0, 0), (1, 1), (2, 2), (3, 3)))
        self.assertEqual(check_stars(["a"], 1, [(0, 0)]), 1)
        # All counts of the board are kept, but one more stands outside.
        self.assertRaises(BadPaper, check_stars, FOUR, 1, (*good, (9, 9)))
        # Rows and columns are kept, but not the letters' lots.
        self.assertRaises(BadPaper, check_stars, ("aaab", "aacc", "aaaa", "addd"), 1, good)


def tried_partners(posts, downs, rights):
    high, wide = len(downs), len(rights)
    posts = sorted(posts)
    found = []
    for spots in product(*[[spot for spot in product(range(high), range(wide))
                            if abs(spot[0] - post[0]) + abs(spot[1] - post[1]) == 1] for post in posts]):
        if len(set(spots)) == len(spots) and apart(spots) and not set(spots) & set(posts):
            if [[y for y, _ in spots].count(line) for line in range(high)] == list(downs):
                if [[x for _, x in spots].count(line) for line in range(wide)] == list(rights):
                    found.append(dict(zip(posts, spots)))
    return tuple(found)


def counts_of(size, whole):
    """Return all rows of counts that come to a number."""
    return [row for row in product(range(whole + 1), repeat=size) if sum(row) == whole]


class TestPartners(unittest.TestCase):
    def test_against_all_tables(self):
        for high, wide in product((1, 2, 3), repeat=2):
            spots = list(product(range(high), range(wide)))
            for many in (0, 1, 2):
                for posts in combinations(spots, many):
                    for downs, rights in product(counts_of(high, many), counts_of(wide, many)):
                        due = tried_partners(posts, downs, rights)
                        given = list(posts[::-1])
                        rows = partners(given, list(downs), rights)
                        self.assertEqual(rows, due, (posts, downs, rights))
                        self.assertEqual(given, list(posts[::-1]))
                        for table in rows:
                            self.assertEqual(list(table), sorted(posts))
                            self.assertEqual(check_partners(posts, downs, rights, table), many)

    def test_thrown_posts(self):
        numbers = Numbers(19)
        seen = 0
        for _ in range(150):
            high, wide = 3 + numbers.below(3), 3 + numbers.below(3)
            posts = numbers.some(product(range(high), range(wide)), 3 + numbers.below(2))
            ways = [[spot for spot in product(range(high), range(wide))
                     if abs(spot[0] - y) + abs(spot[1] - x) == 1] for y, x in posts]
            row = [way[numbers.below(len(way))] for way in ways]
            downs = [[y for y, _ in row].count(line) for line in range(high)]
            rights = [[x for _, x in row].count(line) for line in range(wide)]
            due = tried_partners(posts, downs, rights)
            self.assertEqual(partners(posts, downs, rights), due)
            for most in (0, 1, len(due), len(due) + 1):
                self.assertEqual(partners(posts, downs, rights, most), due[:most])
            seen += len(due)
        self.assertGreater(seen, 15)

    def test_no_posts(self):
        self.assertEqual(partners((), (0,), (0,)), ({},))
        self.assertEqual(partners((), [0] * 9, [0] * 9, 0), ())
        self.assertEqual(check_partners((), (0, 0), (0,), {}), 0)

    def test_refused(self):
        for downs, rights in (((), (0,)), ((0,), ()), ([0] * 10, [0]), ([0], [0] * 10)):
            self.assertRaises(BadSquare, partners, (), downs, rights)
            self.assertRaises(BadSquare, partners, ((0, 0), (0, 0)), downs, rights)
        for posts, downs, rights in ((((0, 0), (0, 0)), (1, 1), (1, 1)), (((0, 2),), (1, 0), (1, 0)),
                                     (((2, 0),), (1, 0), (1, 0)), (((-1, 0),), (1, 0), (1, 0)),
                                     (((0, 0),), (1, 1), (1, 0)), (((0, 0),), (1, 0), (1, 1)),
                                     (((0, 0),), (0, 0), (1, 0)), (((0, 0),), (2, -1), (1, 0)),
                                     (((0, 0),), (1, 0), (-1, 2)), ((), (1, 0), (0, 0)), ((), (0, 0), (1, -1))):
            self.assertRaises(BadSize, partners, posts, downs, rights)

    def test_join_on(self):
        posts = [(0, 0), (2, 2), (3, 0)]
        spots = ((0, 1), (2, 3), (3, 1))
        downs, rights = [1, 0, 1, 1], [0, 2, 0, 1]
        due = tried_partners(posts, downs, rights)
        self.assertIn(dict(zip(posts, spots)), due)
        for table in due:
            for many in range(4):
                begun = {post: table[post] for post in posts[:many]}
                left = [downs[line] - [y for y, _ in begun.values()].count(line) for line in range(4)]
                rest = [rights[line] - [x for _, x in begun.values()].count(line) for line in range(4)]
                whole = [one for one in due if all(one[post] == begun[post] for post in begun)]
                given = (dict(begun), list(left), list(rest))
                found = ["ahead"]
                join_on(posts, begun, left, rest, None, found)
                self.assertEqual(found, ["ahead"] + whole)
                found = ["ahead"]
                join_on(tuple(posts), begun, tuple(left), tuple(rest), 2, found)
                self.assertEqual(found, ["ahead"] + whole[:1])
                self.assertEqual((begun, left, rest), given)

    def test_join_on_keeps_counts_wholly(self):
        for posts, downs, rights in (([(0, 0)], [1, 1], [1, 1]), ([(0, 0)], [0, 1], [1, 1]), ([], [1, 0], [0, 1]),
                                     ([(0, 0), (1, 1)], [1, 0], [0, 1]), ([(0, 0)], [1, 0], [1, 0])):
            found = []
            join_on(posts, {}, downs, rights, None, found)
            self.assertEqual(found, [])

    def test_check_partners(self):
        posts, downs, rights = [(1, 0), (1, 2)], [1, 0, 1], [1, 0, 1]
        good = {(1, 0): (0, 0), (1, 2): (2, 2)}
        self.assertEqual(check_partners(posts, downs, rights, good), 2)
        for wrong in ({}, {(1, 0): (0, 0)}, {**good, (2, 0): (2, 1)}, {(1, 0): (0, 0), (1, 1): (2, 2)},
                      {(1, 0): (0, 0), (1, 2): (0, 2)}, {(1, 0): (0, 0), (1, 2): (2, 3)},
                      {(1, 0): (0, 0), (1, 2): (1, 2)}, {(1, 0): (0, 0), (1, 2): (2, 1)},
                      {(1, 0): (1, 1), (1, 2): (1, 1)}, {(1, 0): (0, 1), (1, 2): (0, 2)}):
            self.assertRaises(BadPaper, check_partners, posts, downs, rights, wrong)
        # The counts are kept, but by another post, by partners of each other's, and by one of both.
        for wrong in ({(1, 0): (0, 0), (2, 1): (2, 2)}, {(1, 0): (2, 2), (1, 2): (0, 0)}):
            self.assertRaises(BadPaper, check_partners, posts, downs, rights, wrong)
        self.assertRaises(BadPaper, check_partners, [(0, 1), (2, 1)], [0, 2, 0], [0, 2, 0],
                          {(0, 1): (1, 1), (2, 1): (1, 1)})
        self.assertRaises(BadPaper, check_partners, posts, [1, 1, 0], rights, good)
        self.assertRaises(BadPaper, check_partners, posts, downs, [0, 1, 1], good)
        self.assertRaises(BadPaper, check_partners, [(0, 0), (0, 1)], [0, 2], [1, 1], {(0, 0): (1, 0), (0, 1): (1, 1)})
        self.assertRaises(BadPaper, check_partners, [(0, 0), (0, 1)], [2, 0], [1, 1], {(0, 0): (0, 1), (0, 1): (0, 0)})


if __name__ == "__main__":
    unittest.main()
