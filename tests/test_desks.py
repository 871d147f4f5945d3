"""Points 19 and 20: lines said to a desk, against going through all latins; what is written, cut, changed, done again."""

import unittest
from itertools import permutations, product

from boards_to_try import Numbers
from brute import steps_told
from cluewright.boards import Board, boxed, latin
from cluewright.desks import (BASE, FIGURES, WIDE, Desk, done_again, figure_of, lines_of, number, square_of,
                              told_square)
from cluewright.errors import BadRule, BadSize, BadStore, BadText, NoSuch, NoWay
from cluewright.papers import check_paper, paper_for, size_of
from cluewright.rules import Gap, Less, Sum, Tops

ASKED = ("solve", "sure", "paper", "may a1", "may b2", "may d4", "may e5")
BAD_NUMBERS = ("x", "100", "000", "1x", "-1", "+1", "1.", "a1")
BAD_SQUARES = ("a", "a0", "j1", "1a", "A1", "a10", "aa", "11", "a-")
OPENED = ["open 1", "open 3", "open 2 2", "open 1 3"]


def all_latins(size):
    rows = list(permutations(range(1, size + 1)))
    return [lot for lot in product(rows, repeat=size) if all(len(set(column)) == size for column in zip(*lot))]


LATINS = {size: all_latins(size) for size in (1, 2, 3)}
LATINS[4] = [lot for first in permutations((1, 2, 3, 4)) for lot in product(
    [row for row in permutations((1, 2, 3, 4)) if all(a != b for a, b in zip(first, row))], repeat=3)
    if all(len(set(column)) == 4 for column in zip(first, *lot)) for lot in [(first, *lot)]]


def tops(values):
    return sum(1 for at, value in enumerate(values) if all(value > one for one in values[:at]))


def at(rows, word):
    return rows["abcdefghi".index(word[0])][int(word[1]) - 1]


def line_of(rows, side, line):
    """Return a line's numbers, the nearest to a side ahead."""
    values = rows[line - 1] if side in ("left", "right") else [row[line - 1] for row in rows]
    return values if side in ("left", "top") else values[::-1]


class Told:
    """What a desk is to answer, by going through all latins."""

    def __init__(self):
        self.rows = None
        self.rules = []
        self.clues = {}

    def solutions(self):
        return [rows for rows in self.rows if all(keep(rows) for keep in self.rules)
                and all(at(rows, word) == value for word, value in self.clues.items())]

    def do(self, line):
        """Take a line that is not refused; return the answer."""
        first, *words = line.split()
        if first == "open":
            self.open([int(word) for word in words])
        elif first == "rule":
            self.rules.append(self.keeper(*words))
        elif first == "clue":
            self.clues[words[0]] = int(words[1])
        elif first == "clear":
            del self.clues[words[0]]
        else:
            return self.answer(first, words)
        return str(min(20, len(self.solutions())))

    def open(self, sizes):
        size = sizes[0] * (sizes + [1])[1]
        self.rows, self.rules, self.clues = LATINS[size], [], {}
        if len(sizes) == 2:
            self.rules.append(lambda rows: all(
                len({rows[y][x] for y in range(top, top + sizes[0]) for x in range(left, left + sizes[1])}) == size
                for top in range(0, size, sizes[0]) for left in range(0, size, sizes[1])))

    def keeper(self, kind, *words):
        if kind == "sum":
            return lambda rows: sum(at(rows, word) for word in words[1:]) == int(words[0])
        if kind == "less":
            return lambda rows: at(rows, words[0]) < at(rows, words[1])
        if kind == "gap":
            return lambda rows: abs(at(rows, words[1]) - at(rows, words[2])) == int(words[0])
        return lambda rows: tops(line_of(rows, words[0], int(words[1]))) == int(words[2])

    def answer(self, first, words):
        found = self.solutions()
        size = len(self.rows[0])
        spots = [(y, x) for y in range(size) for x in range(size)]
        if first == "solve":
            return "/".join("".join(str(value) for value in row) for row in min(found))
        if first == "sure":
            sure = [(y, x) for y, x in spots if len({rows[y][x] for rows in found}) == 1]
            return " ".join(f"{'abcd'[y]}{x + 1}{found[0][y][x]}" for y, x in sure)
        return "".join(str(value) for value in sorted({at(rows, words[0]) for rows in found}))


def a_talk(seed):
    """Return lines that are not refused, deeds and questions."""
    numbers = Numbers(seed)
    size, line = (("1", "open 1"), ("2", "open 2"), ("3", "open 3"), ("4", "open 4"), ("4", "open 2 2"),
                  ("3", "open 3 1"), ("2", "open 1 2"))[seed % 7]
    squares = [row + column for row in "abcd"[:int(size)] for column in "1234"[:int(size)]]
    told, lines, clued = Told(), [line], []
    told.do(line)
    for _ in range(9):
        one, two = numbers.some(squares, 2) if len(squares) > 1 else ("a1", "a1")
        kind = numbers.below(6)
        if kind == 0:
            lines.append(f"rule sum {1 + numbers.below(6)} {one}" + ("" if one == two else " " + two))
        elif kind == 1 and one != two:
            lines.append(f"rule less {one} {two}")
        elif kind == 2 and one != two:
            lines.append(f"rule gap {numbers.below(3)} {one} {two}")
        elif kind == 3:
            side = ("left", "right", "top", "bottom")[numbers.below(4)]
            lines.append(f"rule tops {side} {1 + numbers.below(int(size))} {numbers.below(3)}")
        elif kind == 4 or not clued:
            lines.append(f"clue {one} {1 + numbers.below(int(size))}")
            clued.append(one)
        else:
            lines.append(f"clear {clued[-1]}")
            clued = [word for word in clued if word != clued[-1]]
        told.do(lines[-1])
        lines.append(f"may {two}")
        if told.solutions():
            lines += ["solve", "sure"]
    return lines


def said(lines):
    desk = Desk()
    for line in lines:
        desk.say(line)
    return desk


def state(desk):
    shown = None if desk.board is None else desk.board.shown()
    return (shown, dict(desk.clues), desk.text, desk.many)


class TestWords(unittest.TestCase):
    def test_names(self):
        self.assertEqual((FIGURES, BASE, WIDE), ("0123456789", 9973, 2000003))

    def test_number(self):
        for value in range(100):
            self.assertEqual(number(str(value)), value)
            self.assertEqual(number(str(value).zfill(2)), value)
        for word in ("", " ", "1 ", *BAD_NUMBERS):
            self.assertRaises(BadText, number, word)

    def test_squares(self):
        for y, x in product(range(9), repeat=2):
            word = "abcdefghi"[y] + "123456789"[x]
            self.assertEqual(square_of(word), (y, x))
            self.assertEqual(told_square((y, x)), word)
        for word in ("", *BAD_SQUARES):
            self.assertRaises(BadText, square_of, word)

    def test_figure_of(self):
        self.assertEqual(figure_of(""), 0)
        self.assertEqual(figure_of("a"), 97 * 9973 + 97)
        self.assertEqual(figure_of("ab"), 195 * 9973 + 97 + 2 * 98)
        self.assertNotEqual(figure_of("ab"), figure_of("ba"))
        text = "open 4 solve" * 2000
        plain = sum(ord(sign) for sign in text)
        weighed = sum(ord(sign) * (place + 1) for place, sign in enumerate(text))
        self.assertGreater(plain, 2000003)
        self.assertEqual(figure_of(text), plain % 2000003 * 9973 + weighed % 9973)


class TestTalks(unittest.TestCase):
    def test_against_all_latins(self):
        deeds = 0
        for seed in range(42):
            desk, told = Desk(), Told()
            for line in a_talk(seed):
                before = state(desk)
                self.assertEqual(desk.say(line), told.do(line), line)
                if line.split()[0] in ("open", "rule", "clue", "clear"):
                    self.assertEqual(desk.many, before[3] + 1)
                    deeds += 1
                else:
                    self.assertEqual(state(desk), before)
        self.assertGreater(deeds, 300)

    def test_each_kind_of_line(self):
        talk = [("open 3", "12"), ("solve", "123/231/312"), ("sure", ""), ("may a1", "123"), ("rule sum 5 a1 a2", "4"),
                ("rule less a1 a2", "2"), ("sure", "a12 a23 a31"), ("rule gap 2 b1 b2", "1"), ("solve", "231/312/123"),
                ("open 3", "12"), ("may a1", "123"), ("rule tops left 1 3", "2"),
                ("rule tops right 2 3", "0"), ("may b2", ""), ("open 3", "12"), ("rule tops top 2 3", "2"),
                ("rule tops bottom 1 2", "2"), ("solve", "213/321/132"), ("open 2 2", "20"), ("clue a1 4", "20"),
                ("may a1", "4"), ("clue a1 3", "20"), ("may a1", "3"), ("clear a1", "20"), ("may a1", "1234"),
                ("open 1", "1"), ("solve", "1"), ("sure", "a11"), ("paper", "1 0 0"), ("open 1 1", "1"),
                ("open 2 1", "2"), ("open 4", "20")]
        desk = Desk()
        for line, answer in talk:
            self.assertEqual(desk.say(line), answer, line)
        self.assertEqual(desk.many, 18)

    def test_paper(self):
        desk = said(["open 3", "rule sum 5 a1 a2", "rule less a1 a2", "rule gap 2 b1 b2"])
        self.assertEqual(desk.say("paper"), f"1 {len(steps_told(desk.board)[0])} 0")
        self.assertEqual(said(["open 2"]).say("paper"), "2 6 1")
        desk = said(["open 2", "rule sum 9 a1"])
        self.assertEqual(desk.say("paper"), f"0 {len(steps_told(desk.board)[0])} 0")
        for seed in range(21):
            desk = said(a_talk(seed)[:5])
            board = desk.board.given(desk.clues)
            paper = paper_for(board)
            steps, choices = size_of(paper)
            self.assertEqual(desk.say("paper"), f"{len(check_paper(board, paper))} {steps} {choices}")

    def test_twenty_at_most(self):
        self.assertEqual(Desk().say("open 4"), "20")
        self.assertEqual(Desk().say("open 3"), "12")
        desk = said(["open 4", "clue a1 1", "clue a2 2"])
        self.assertEqual(desk.say("clue a3 3"), "20")
        self.assertEqual(desk.say("clue b1 2"), "8")

    def test_blanks_between_words(self):
        desk = Desk()
        self.assertEqual(desk.say("  open\t 2  2 "), "20")
        self.assertEqual(desk.say(" clue  a1 01"), "20")
        self.assertEqual(lines_of(desk.text), ("open 2 2", "clue a1 01"))

    def test_a_board_opened_anew(self):
        desk = said(["open 3", "clue a1 1", "rule less a1 a2"])
        self.assertEqual(desk.clues, {(0, 0): 1})
        self.assertEqual(desk.say("open 3"), "12")
        self.assertEqual(desk.clues, {})
        self.assertEqual(desk.board.shown(), latin(3).shown())
        self.assertEqual(desk.say("open 2 2"), "20")
        self.assertEqual(desk.board.shown(), boxed(2, 2).shown())
        self.assertEqual(desk.many, 5)

    def test_a_new_rule_stands_last(self):
        desk = said(["open 2", "rule less a1 a2", "rule sum 3 a1 b1", "rule tops right 1 2", "rule gap 1 a1 a2"])
        due = [Less((0, 0), (0, 1)), Sum(((0, 0), (1, 0)), 3), Tops(((0, 1), (0, 0)), 2), Gap((0, 0), (0, 1), 1)]
        self.assertEqual([rule.shown() for rule in desk.board.rules[-4:]], [rule.shown() for rule in due])
        self.assertEqual(len(desk.board.rules), 8)


class TestRefusals(unittest.TestCase):
    def check(self, desk, line, kind):
        before = state(desk)
        self.assertEqual(desk.say(line), "error: " + kind, line)
        self.assertEqual(state(desk), before, line)

    def test_bare_lines(self):
        for desk in (Desk(), said(["open 2"])):
            for line in ("", " ", "\n"):
                self.check(desk, line, "text")

    def test_open(self):
        for desk in (Desk(), said(["open 2"])):
            for word in BAD_NUMBERS:
                for line in (f"open {word}", f"open {word} 2", f"open 2 {word}", f"open 9 {word}", f"open {word} 0"):
                    self.check(desk, line, "text")
            for line in ("open 0", "open 5", "open 99", "open 0 2", "open 2 0", "open 2 3", "open 5 1", "open 00"):
                self.check(desk, line, "size")

    def test_lines_ahead_of_a_board(self):
        desk = Desk()
        for line in ("open", "open 1 2 3", "solve", "sure", "may a1", "paper", "may", "may zz", "solve it", "hello",
                     "clue a1", "clue a1 1 1", "clear", "clear a1 a2", "rule", "clue a1 1", "clear a1",
                     "rule sum 3 a1", "rule less a1 a2", "rule gap 1 a1 a2", "rule tops left 1 1",
                     "rule tops left x y", "rule tops top 9 1", "Open 3", "opens 3"):
            self.check(desk, line, "no such")

    def test_what_is_read_ahead_of_a_board(self):
        desk = Desk()
        for word in BAD_NUMBERS:
            for line in (f"rule sum {word} a1", f"rule gap {word} a1 a2", f"clue a1 {word}"):
                self.check(desk, line, "text")
        for word in BAD_SQUARES:
            for line in (f"rule sum 3 {word}", f"rule sum 3 a1 {word}", f"rule less {word} a1", f"rule less a1 {word}",
                         f"rule gap 1 {word} a1", f"rule gap 1 a1 {word}", f"clue {word} 1", f"clear {word}"):
                self.check(desk, line, "text")
        for line in ("rule tops middle 1 1", "rule tops middle x y", "rule sum 3", "rule less a1", "rule gap 1 a1",
                     "rule tops left 1", "rule tops left 1 1 1", "rule less a1 a2 a3", "rule more a1 a2", "rule more left 1 1"):
            self.check(desk, line, "text")
        for line in ("rule sum 3 a1 a1", "rule less a1 a1", "rule gap 1 b2 b2"):
            self.check(desk, line, "rule")

    def test_with_a_board(self):
        desk = said(["open 2", "clue a1 1"])
        for line in ("open", "open 1 2 3", "may", "may zz", "may a1 a2", "solve it", "sure 1", "paper 2", "hello",
                     "clue a1", "clue a1 1 1", "clear", "clear a1 a2", "rule", "rule tops left x 1",
                     "rule tops left 1 x", "rule tops left 9 x", "rule tops left 1 100", "rule more", "Open 3"):
            self.check(desk, line, "text")
        for line in ("clue a1 3", "clue a1 0", "clue c1 1", "clue i9 1", "clear b1", "clear c1", "may c1", "may a3",
                     "may i9"):
            self.check(desk, line, "no such")
        for line in ("rule sum 3 c1", "rule less a1 a3", "rule gap 1 i9 a1", "rule sum 3 a1 a1"):
            self.check(desk, line, "rule")
        for line in ("rule tops left 0 1", "rule tops right 3 1", "rule tops top 99 1", "rule tops bottom 3 1"):
            self.check(desk, line, "size")

    def test_no_solution(self):
        desk = said(["open 2", "clue a1 1"])
        self.assertEqual(desk.say("clue a2 1"), "0")
        for line in ("solve", "sure"):
            self.check(desk, line, "no way")
        self.assertEqual(desk.say("may a1"), "")
        self.check(desk, "may c1", "no such")
        board = desk.board.given(desk.clues)
        steps, choices = size_of(paper_for(board))
        self.assertEqual(desk.say("paper"), f"0 {steps} {choices}")

    def test_errors_of_the_methods(self):
        desk = Desk()
        self.assertRaises(NoSuch, desk.here)
        self.assertRaises(NoSuch, desk.size)
        self.assertRaises(NoSuch, desk.answer, ["solve"])
        self.assertRaises(NoSuch, desk.answer, ["hello"])
        self.assertRaises(NoSuch, desk.rule_of, ["tops", "left", "1", "1"])
        self.assertRaises(BadText, desk.rule_of, ["tops", "middle", "1", "1"])
        self.assertRaises(BadText, desk.rule_of, [])
        self.assertRaises(BadText, desk.rule_of, ["sum", "3"])
        self.assertRaises(BadRule, desk.rule_of, ["less", "a1", "a1"])
        self.assertRaises(BadText, desk.do, "")
        self.assertRaises(BadSize, desk.do, "open 5")
        self.assertRaises(NoSuch, desk.do, "clear a1")
        desk.do("open 2")
        self.assertRaises(BadText, desk.answer, ["hello"])
        self.assertRaises(NoSuch, desk.answer, ["may", "c1"])
        self.assertRaises(BadSize, desk.rule_of, ["tops", "left", "3", "1"])
        self.assertRaises(NoSuch, desk.let, desk.board, {(5, 5): 1}, ["clue", "f6", "1"])
        self.assertRaises(NoSuch, desk.do, "clear a1")
        desk.do("clue a1 1")
        desk.do("clue a2 1")
        self.assertRaises(NoWay, desk.answer, ["solve"])
        self.assertRaises(NoWay, desk.answer, ["sure"])

    def test_methods(self):
        desk = Desk()
        self.assertEqual((desk.board, desk.clues, desk.text, desk.many), (None, {}, "", 0))
        self.assertEqual(desk.do("open 3"), "12")
        self.assertEqual(desk.size(), 3)
        self.assertIs(desk.here(), desk.board)
        self.assertEqual(desk.rule_of(["tops", "bottom", "2", "3"]).shown(), ("tops", ((2, 1), (1, 1), (0, 1)), 3))
        self.assertEqual(desk.rule_of(["tops", "right", "1", "0"]).shown(), ("tops", ((0, 2), (0, 1), (0, 0)), 0))
        self.assertEqual(desk.rule_of(("sum", "07", "a1")).shown(), ("sum", ((0, 0),), 7))
        self.assertEqual(desk.rule_of(["gap", "0", "i9", "a1"]).shown(), ("gap", ((8, 8), (0, 0)), 0))
        self.assertEqual(desk.answer(["solve"]), "123/231/312")
        clues = {(0, 0): 1}
        board = Board({(0, 0): (1, 2), (0, 1): (1,)}, ())
        self.assertEqual(desk.let(board, clues, ["clue", "a1", "1"]), 1)
        self.assertEqual(desk.size(), 1)
        self.assertEqual((desk.board, desk.clues, desk.many), (board, {(0, 0): 1}, 2))
        self.assertEqual(lines_of(desk.text), ("open 3", "clue a1 1"))
        self.assertEqual(clues, {(0, 0): 1})
        desk.do("clear a1")
        self.assertEqual(clues, {(0, 0): 1})


class TestText(unittest.TestCase):
    def test_to_the_sign(self):
        desk = Desk()
        self.assertEqual(desk.text, "")
        desk.say("open 2")
        first = sum(ord(sign) for sign in "0 open 2") * 9973
        first += sum(ord(sign) * place for place, sign in enumerate("0 open 2", 1)) % 9973
        self.assertEqual(desk.text, f"0 open 2 {first}\n")
        for line in ("solve", "hello", "clue a9 1", "sure"):
            desk.say(line)
        self.assertEqual((desk.text, desk.many), (f"0 open 2 {first}\n", 1))
        desk.say(" clue  a1 1")
        desk.say("rule less a1 a2")
        self.assertEqual(desk.text, f"0 open 2 {first}\n1 clue a1 1 {figure_of('1 clue a1 1')}\n"
                                    f"2 rule less a1 a2 {figure_of('2 rule less a1 a2')}\n")
        self.assertEqual(desk.many, 3)

    def test_lines_of(self):
        self.assertEqual(lines_of(""), ())
        deeds = ["open 2", "rule less a1 a2", "clue a1 1", "clear a1", "open 3"] + ["clue a1 1", "clear a1"] * 4
        text = said(deeds).text
        self.assertEqual(lines_of(text), tuple(deeds))
        ends = [place for place, sign in enumerate(text) if sign == "\n"]
        for cut in range(len(text) + 1):
            whole = len([place for place in ends if place < cut])
            self.assertEqual(lines_of(text[:cut]), tuple(deeds[:whole]))
            self.assertEqual(state(done_again(text[:cut])), state(said(deeds[:whole])))

    def test_a_changed_sign(self):
        text = said(["open 2", "rule less a1 a2", "clue a1 1"]).text
        for place in range(len(text)):
            for sign in "0129ab \nx":
                changed = text[:place] + sign + text[place + 1:]
                # Where the last row loses its end, it is left out.
                if sign != text[place] and place < len(text) - 1:
                    self.assertRaises(BadStore, lines_of, changed)
                    self.assertRaises(BadStore, done_again, changed)
        self.assertEqual(lines_of(text[:-1] + "x"), ("open 2", "rule less a1 a2"))
        for place in range(len(text) - 1):
            self.assertRaises(BadStore, lines_of, text[:place] + text[place + 1:])

    def test_rows_out_of_order(self):
        first, second = said(["open 2", "clue a1 1"]).text.splitlines(keepends=True)
        for text in (second, first + first, second + first, "\n", first + "\n", " \n", "0\n", "0 \n"):
            self.assertRaises(BadStore, lines_of, text)
            self.assertRaises(BadStore, done_again, text)

    def written(self, lines):
        rows = [f"{place} {line}" for place, line in enumerate(lines)]
        return "".join(f"{row} {figure_of(row)}\n" for row in rows)

    def test_what_no_desk_writes(self):
        for lines in (["clue a1 1"], ["open 9"], ["open 2", "clue a1 3"], ["hello"], [""], ["open 2", "solve"],
                      ["open 2", "may a1"], ["open 2", "paper"], ["open  2"], ["open 2", "clear a1"], ["solve"],
                      ["open 2", "rule less a1 c1"]):
            self.assertEqual(lines_of(self.written(lines)), tuple(lines))
            self.assertRaises(BadStore, done_again, self.written(lines))
        self.assertEqual(self.written(["open 2", "clue a1 2"]), said(["open 2", "clue a1 2"]).text)

    def test_done_again(self):
        self.assertEqual(state(done_again("")), state(Desk()))
        for seed in range(7):
            desk = said(a_talk(seed))
            rows = desk.text.splitlines(keepends=True)
            for many in range(len(rows) + 1):
                text = "".join(rows[:many])
                again, due = done_again(text), said(lines_of(text))
                self.assertEqual(state(again), state(due))
                self.assertEqual(again.text, text)
                # A paper of an open board of four is long.
                asked = ASKED if many == len(rows) or seed % 7 in (0, 1, 2) else ASKED[:2]
                for line in asked:
                    self.assertEqual(again.say(line), due.say(line))
                for line in rows[many:many + 1]:
                    deed = " ".join(line.split()[1:-1])
                    self.assertEqual(again.say(deed), due.say(deed))
                    self.assertEqual(again.text, text + line)


if __name__ == "__main__":
    unittest.main()
