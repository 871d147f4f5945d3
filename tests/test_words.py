"""Point 17: slots filled with words, against going through all rows of words."""

import unittest
from itertools import product

from boards_to_try import Numbers
from cluewright.errors import BadPaper, BadSize, BadText
from cluewright.words import (WALL, check_list, crossings, fill_on, filled_rows, fillings, hidden_at, ladder,
                              numbers_of, runs_in, slots_of, stands, unlike)

SIZES = [(1, 1), (1, 2), (2, 1), (1, 3), (3, 1), (2, 2), (2, 3), (3, 2)]
BAD_ROWS = [(), ("",), ("ab", "a"), ("", "a"), ["a", ""]]
EIGHT = ((-1, -1), (-1, 0), (-1, 1), (0, -1), (0, 1), (1, -1), (1, 0), (1, 1))


def all_boards(high, wide, signs):
    for row in product(signs, repeat=high * wide):
        yield tuple("".join(row[y * wide:(y + 1) * wide]) for y in range(high))


def tried_runs(line):
    """Return the runs of two or more in a line of (square, sign) pairs."""
    text = "".join(" " if sign == "#" else "x" for _, sign in line)
    found = []
    for start in range(len(text)):
        if text[start] == "x" and text[start - 1:start] != "x":
            run = len(text[start:].split(" ")[0])
            if run > 1:
                found.append(tuple(spot for spot, _ in line[start:start + run]))
    return found


def tried_slots(rows):
    high, wide = len(rows), len(rows[0])
    found = []
    for y in range(high):
        found += [("across", run) for run in tried_runs([((y, x), rows[y][x]) for x in range(wide)])]
    for x in range(wide):
        found += [("down", run) for run in tried_runs([((y, x), rows[y][x]) for y in range(high)])]
    return tuple(found)


def agreed(rows, slots, row):
    """Return a table of squares to their signs, None where they don't agree."""
    table = {(y, x): sign for y, line in enumerate(rows) for x, sign in enumerate(line) if sign not in ".#"}
    for word, (_, spots) in zip(row, slots):
        if len(word) != len(spots):
            return None
        for spot, sign in zip(spots, word):
            if table.setdefault(spot, sign) != sign:
                return None
    return table


def tried_fillings(rows, words, twice):
    slots = tried_slots(rows)
    found = []
    for row in product(sorted(set(words)), repeat=len(slots)):
        if agreed(rows, slots, row) is not None and (twice or len(set(row)) == len(row)):
            found.append(row)
    return tuple(found)


LISTS = [[], ["ab"], ["ab", "ba", "aa", "bb", "a"], ["aba", "ab", "ba", "bab", "ab"], ["bb", "aa", "abb", "bba", "ba"],
         ["aab", "aba", "ab", "aa", "ba"], ["#a", "a#", "aa", ".a", "aa"]]


class TestSlots(unittest.TestCase):
    def test_wall(self):
        self.assertEqual(WALL, "#")

    def test_slots_of(self):
        self.assertEqual(slots_of(["..", "#."]), (("across", ((0, 0), (0, 1))), ("down", ((0, 1), (1, 1)))))
        # Down from the left: a column's slots ahead of the next column's, though these begin further up.
        rows = ("#..", "a..", "...")
        self.assertEqual([spots[0] for way, spots in slots_of(rows) if way == "down"], [(1, 0), (0, 1), (0, 2)])
        for high, wide in SIZES + [(3, 3)]:
            for board in all_boards(high, wide, ".#"):
                self.assertEqual(slots_of(list(board)), tried_slots(board))
        for rows in BAD_ROWS:
            self.assertRaises(BadText, slots_of, rows)

    def test_rows_without_a_slot(self):
        for rows in (["."], ["#"], ["a"], ["#.", ".#"], [".#."], ["##"]):
            self.assertEqual(slots_of(rows), ())
            self.assertEqual(fillings(rows, ["a", "ab"]), ((),))
            self.assertEqual(fillings(rows, [], 0), ())
            self.assertEqual(filled_rows(rows, ()), tuple(rows))
            self.assertEqual(crossings(rows), ())
            self.assertEqual(numbers_of(rows), {})

    def test_more_rows_than_nine(self):
        self.assertEqual(len(slots_of(["." * 12] * 11)), 23)

    def test_runs_in(self):
        rows = ("..#.", "#...")
        self.assertEqual(runs_in(tuple((0, x) for x in range(4)), rows), [((0, 0), (0, 1))])
        self.assertEqual(runs_in([(1, 3), (1, 2), (1, 1), (1, 0)], list(rows)), [((1, 3), (1, 2), (1, 1))])
        self.assertEqual(runs_in((), rows), [])
        for board in all_boards(1, 6, ".#"):
            line = [((0, x), board[0][x]) for x in range(6)]
            self.assertEqual(runs_in([spot for spot, _ in line], board), tried_runs(line))

    def test_check_list(self):
        words = ["b", "a", "b", "ab"]
        self.assertEqual(check_list(words), ["a", "ab", "b"])
        self.assertEqual(words, ["b", "a", "b", "ab"])
        self.assertEqual(check_list(()), [])
        for words in ([""], ["a", ""], ("", "")):
            self.assertRaises(BadSize, check_list, words)
            self.assertRaises(BadSize, fillings, ["."], words)
            self.assertRaises(BadSize, ladder, "a", "b", words)
        self.assertRaises(BadSize, ladder, "a", "", [])

    def test_crossings(self):
        self.assertEqual(crossings(["..#", "..."]), ((0, 0, 2, 0), (0, 1, 3, 0), (1, 0, 2, 1), (1, 1, 3, 1)))
        for high, wide in SIZES + [(3, 3)]:
            for board in all_boards(high, wide, ".#"):
                slots = tried_slots(board)
                due = [(one, slots[one][1].index(spot), other, slots[other][1].index(spot))
                       for one in range(len(slots)) for other in range(one + 1, len(slots))
                       for spot in slots[one][1] if spot in slots[other][1]]
                self.assertEqual(crossings(list(board)), tuple(sorted(due)))
        for rows in BAD_ROWS:
            self.assertRaises(BadText, crossings, rows)

    def test_numbers_of(self):
        self.assertEqual(list(numbers_of(["#..", "...", ".#."]).items()),
                         [((0, 1), 1), ((0, 2), 2), ((1, 0), 3)])
        for high, wide in SIZES + [(3, 3)]:
            for board in all_boards(high, wide, ".#"):
                firsts = sorted({spots[0] for _, spots in tried_slots(board)})
                self.assertEqual(list(numbers_of(list(board)).items()), [(spot, place) for place, spot in
                                                                         enumerate(firsts, 1)])
        for rows in BAD_ROWS:
            self.assertRaises(BadText, numbers_of, rows)


class TestFillings(unittest.TestCase):
    def test_against_all_rows_of_words(self):
        for high, wide in SIZES:
            for board in all_boards(high, wide, ".#" if high * wide == 6 else ".#a"):
                for words in LISTS:
                    for twice in (False, True):
                        given = list(words)
                        due = tried_fillings(board, words, twice)
                        self.assertEqual(fillings(list(board), words, None, twice), due, (board, words, twice))
                        self.assertEqual(words, given)

    def test_given_signs(self):
        self.assertEqual(fillings(("a.", ".."), ["ab", "ba", "aa", "bb"], twice=True),
                         tried_fillings(("a.", ".."), ["ab", "ba", "aa", "bb"], True))
        self.assertEqual(fillings((".b", "c."), ["ab", "cd", "ac", "bd"]), (("ab", "cd", "ac", "bd"),))
        self.assertEqual(fillings((".b", "x."), ["ab", "cd", "ac", "bd"]), ())

    def test_a_word_twice_on_the_board(self):
        self.assertEqual(fillings(["..", ".."], ["aa", "aa"]), ())
        self.assertEqual(fillings(["..", ".."], ["aa", "aa"], twice=True), (("aa",) * 4,))

    def test_so_many(self):
        rows = fillings(["...", "#.#", "..."], ["aba", "bab", "abb", "bbb", "aaa"])
        self.assertGreater(len(rows), 3)
        for many in (0, 1, 2, len(rows), len(rows) + 1):
            self.assertEqual(fillings(["...", "#.#", "..."], ["aba", "bab", "abb", "bbb", "aaa"], many), rows[:many])

    def test_refused(self):
        for rows in BAD_ROWS:
            self.assertRaises(BadText, fillings, rows, ["a"])
            self.assertRaises(BadText, fillings, rows, [""])
            self.assertRaises(BadText, filled_rows, rows, ())

    def test_fill_on(self):
        board = ("...", "a.#")
        slots = slots_of(board)
        words = check_list(["ab", "ba", "aa", "bb", "aba", "bab", "aab"])
        known = {(1, 0): "a"}
        for twice in (False, True):
            due = tried_fillings(board, words, twice)
            self.assertTrue(due)
            begun = {row[:many] for row in due for many in range(5)}
            for row in sorted(begun | {("aba", "bb"), ("ab",), ("bab", "aa", "ba"), ("aab", "aa", "aa")}):
                for most in (None, 0, 1, 2):
                    found = ["ahead"]
                    fill_on(slots, words, known, row, most, twice, found)
                    whole = [one for one in due if one[:len(row)] == row]
                    self.assertEqual(found, ["ahead"] + (whole if most is None else whole[:max(0, most - 1)]))
        self.assertEqual(known, {(1, 0): "a"})
        found = []
        fill_on(slots, words, known, list(due[0]), None, True, found)
        fill_on(slots, words, known, (*due[0], "ab"), None, True, found)
        self.assertEqual(found, [due[0]])

    def test_filled_rows(self):
        self.assertEqual(filled_rows(["a.", ".#"], ("ab", "ac")), ("ab", "c#"))
        for board in all_boards(2, 3, ".#"):
            for row in tried_fillings(board, ["aba", "ab", "ba", "bab", "aa"], True):
                table = agreed(board, tried_slots(board), row)
                due = tuple("".join(table.get((y, x), board[y][x]) for x in range(3)) for y in range(2))
                self.assertEqual(filled_rows(list(board), list(row)), due)
        for row in ((), ("ab",), ("ab", "ac", "ab"), ("abc", "ac"), ("ab", "a"), ("ab", "bc"), ("bb", "bc"),
                    ("", "")):
            self.assertRaises(BadPaper, filled_rows, ["a.", ".#"], row)
        self.assertRaises(BadPaper, filled_rows, ["."], ("a",))
        self.assertRaises(BadPaper, filled_rows, ["..", ".#"], ("ab", "bc"))


class TestHidden(unittest.TestCase):
    def tried(self, rows, word):
        high, wide = len(rows), len(rows[0])
        found = []
        for y, x, step in product(range(high), range(wide), EIGHT):
            signs = [(y + step[0] * place, x + step[1] * place) for place in range(len(word))]
            if all(0 <= a < high and 0 <= b < wide and rows[a][b] == sign for (a, b), sign in zip(signs, word)):
                found.append(((y, x), step))
        return tuple(found)

    def test_hidden_at(self):
        self.assertEqual(hidden_at(["abc"], "abc"), (((0, 0), (0, 1)),))
        self.assertEqual(hidden_at(["abc"], "cba"), (((0, 2), (0, -1)),))
        self.assertEqual(hidden_at(["aba"], "aba"), (((0, 0), (0, 1)), ((0, 2), (0, -1))))
        self.assertEqual(hidden_at(["abc"], "abcd"), ())
        self.assertEqual(hidden_at(["a"], "a"), tuple(((0, 0), step) for step in EIGHT))
        numbers = Numbers(17)
        for _ in range(60):
            rows = ["".join("ab"[numbers.below(2)] for _ in range(4)) for _ in range(3)]
            for word in ("a", "ab", "ba", "aba", "abba", "baab", "ababa"):
                self.assertEqual(hidden_at(rows, word), self.tried(rows, word))

    def test_stands(self):
        rows = ("abc", "def")
        self.assertIs(stands(rows, "ae", (0, 0), (1, 1)), True)
        self.assertIs(stands(rows, "ae", (0, 0), (0, 1)), False)
        for word, spot, step in (("ac", (0, 0), (0, -1)), ("ad", (0, 0), (-1, 0)), ("cx", (0, 2), (0, 1)),
                                 ("ea", (1, 1), (1, 0)), ("fb", (1, 2), (0, 1))):
            self.assertIs(stands(rows, word, spot, step), False)

    def test_refused(self):
        self.assertRaises(BadSize, hidden_at, ["ab"], "")
        for rows in BAD_ROWS:
            self.assertRaises(BadText, hidden_at, rows, "a")
            self.assertRaises(BadText, hidden_at, rows, "")


class TestLadders(unittest.TestCase):
    def tried(self, start, end, words):
        """Return the first of the shortest rows of words, by going through all rows level by level."""
        steps = sorted(set(words) | {end})
        rows = [(start,)]
        for _ in range(len(steps) + 1):
            for row in rows:
                if row[-1] == end:
                    return row
            rows = [(*row, word) for row in rows for word in steps if len(word) == len(row[-1]) and word not in row
                    and sum(1 for a, b in zip(word, row[-1]) if a != b) == 1]
        return None

    def test_ladder(self):
        self.assertEqual(ladder("cat", "dog", ["dot", "cot", "cog", "dat"]), ("cat", "cot", "cog", "dog"))
        self.assertEqual(ladder("cat", "cat", []), ("cat",))
        self.assertEqual(ladder("cat", "cot", []), ("cat", "cot"))
        self.assertIsNone(ladder("cat", "dog", []))
        self.assertIsNone(ladder("cat", "cats", ["cats", "cat"]))
        self.assertIsNone(ladder("aa", "bb", ["ab ", "b"]))
        numbers = Numbers(18)
        for _ in range(150):
            words = ["".join("abc"[numbers.below(3)] for _ in range(3)) for _ in range(2 + numbers.below(7))]
            words += ["ab", "abcd"]
            given = list(words)
            self.assertEqual(ladder("aaa", "bcb", words), self.tried("aaa", "bcb", words))
            self.assertEqual(ladder("cab", words[0], tuple(words)), self.tried("cab", words[0], words))
            self.assertEqual(words, given)

    def test_unlike(self):
        self.assertEqual(unlike("", ""), 0)
        self.assertEqual(unlike("abc", "abc"), 0)
        self.assertEqual(unlike("abc", "abd"), 1)
        self.assertEqual(unlike("abc", "cab"), 3)


if __name__ == "__main__":
    unittest.main()
