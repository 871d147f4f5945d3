"""Desks: lines said to a board of numbers, answered, written down and done again."""

from cluewright.boards import Board, boxed, latin
from cluewright.errors import (BadPaper, BadRule, BadSize, BadSquare, BadStep, BadStore, BadText, GridFault, NoSuch,
                               NoWay)
from cluewright.papers import check_paper, paper_for, size_of
from cluewright.rules import Gap, Less, Sum, Tops
from cluewright.search import how_many, possible, solutions, sure
from cluewright.squares import column_of, row_of, told

FIGURES = "0123456789"
BASE = 9973
WIDE = 2000003
ROWS = "abcdefghi"
COLUMNS = "123456789"
SIDES = ("left", "right", "top", "bottom")
MOST = 20


def number(word):
    """Return the number of one or two figures; BadText."""
    if not 0 < len(word) < 3 or word.strip(FIGURES) != "":
        raise BadText("a number has one or two figures")
    return int(word)


def square_of(word):
    """Return the square of a row's letter from a to i and a column's figure from one to nine; BadText."""
    if len(word) != 2 or word[0] not in ROWS or word[1] not in COLUMNS:
        raise BadText("a square is a row's letter and a column's figure")
    return (ROWS.index(word[0]), COLUMNS.index(word[1]))


def told_square(spot):
    """Return a square's word."""
    return ROWS[spot[0]] + COLUMNS[spot[1]]


def figure_of(text):
    """Return a text's figure: its signs' numbers added up, then weighed by their places from one on."""
    plain = sum([ord(sign) for sign in text])
    weighed = sum([ord(sign) * place for place, sign in enumerate(text, 1)])
    return plain % WIDE * BASE + weighed % BASE


def line_at(side, line, size):
    """Return a line's squares, from a side of the board on."""
    spots = row_of(line, size) if side in ("left", "right") else column_of(line, size)
    if side in ("right", "bottom"):
        return tuple(reversed(spots))
    return spots


class Desk:
    """A board, its clues, and the text of what was done."""

    def __init__(self):
        self.board = None
        self.clues = {}
        self.text = ""
        self.many = 0

    def say(self, line):
        """Do or answer a line; return the answer, "error: ..." for what is refused."""
        try:
            return self.do(line)
        except BadText:
            return "error: text"
        except BadSquare:
            return "error: square"
        except BadRule:
            return "error: rule"
        except BadStep:
            return "error: step"
        except BadPaper:
            return "error: paper"
        except BadSize:
            return "error: size"
        except NoWay:
            return "error: no way"
        except NoSuch:
            return "error: no such"

    def do(self, line):
        """Do or answer a line by its first word; what changes something is written down; BadText."""
        words = line.split()
        if words == []:
            raise BadText("a line has a word or more")
        if words[0] == "open" and len(words) in (2, 3):
            return self.do_open(words)
        if words[0] == "rule" and len(words) > 1:
            return self.do_rule(words)
        if words[0] == "clue" and len(words) == 3:
            return self.do_clue(words)
        if words[0] == "clear" and len(words) == 2:
            return self.do_clear(words)
        return self.answer(words)

    def do_open(self, words):
        """Open a board of a size, or of boxes, without clues; return the answer."""
        sizes = [number(word) for word in words[1:]]
        whole = sizes[0] * sizes[-1] if len(sizes) == 2 else sizes[0]
        if not 0 < whole < 5:
            raise BadSize("a board has one to four rows")
        board = boxed(sizes[0], sizes[1]) if len(sizes) == 2 else latin(whole)
        return str(self.let(board, {}, words))

    def do_rule(self, words):
        """Put a new rule behind the board's; return the answer."""
        rule = self.rule_of(words[1:])
        old = self.here()
        return str(self.let(Board(old.options, (*old.rules, rule)), self.clues, words))

    def do_clue(self, words):
        """Give a square a number; return the answer."""
        spot = square_of(words[1])
        value = number(words[2])
        board = self.here()
        clues = {one: self.clues[one] for one in self.clues}
        clues[spot] = value
        return str(self.let(board, clues, words))

    def do_clear(self, words):
        """Take a square's clue away; return the answer."""
        spot = square_of(words[1])
        board = self.here()
        if spot not in self.clues:
            raise NoSuch("the square has no clue")
        return str(self.let(board, {one: self.clues[one] for one in self.clues if one != spot}, words))

    def here(self):
        """Return the board; NoSuch for none."""
        if self.board is None:
            raise NoSuch("no board is open")
        return self.board

    def rule_of(self, words):
        """Return the rule of words: sum, less and gap with squares, tops with a line and a count; BadText."""
        kind = words[0] if len(words) > 0 else ""
        if kind == "sum" and len(words) > 2:
            whole = number(words[1])
            return Sum([square_of(word) for word in words[2:]], whole)
        if kind == "less" and len(words) == 3:
            return Less(square_of(words[1]), square_of(words[2]))
        if kind == "gap" and len(words) == 4:
            much = number(words[1])
            return Gap(square_of(words[2]), square_of(words[3]), much)
        if kind == "tops" and len(words) == 4 and words[1] in SIDES:
            size = self.size()
            line = number(words[2]) - 1
            count = number(words[3])
            if not 0 <= line < size:
                raise BadSize("the board hasn't such a line")
            return Tops(line_at(words[1], line, size), count)
        raise BadText("there is no such rule")

    def size(self):
        """Return how many rows the board has; NoSuch."""
        return len(set([spot[0] for spot in self.here().options]))

    def let(self, board, clues, words):
        """Let a board and clues be, and write the line down; return how many solutions there are, up to twenty."""
        many = how_many(board.given(clues), MOST)
        body = " ".join([str(self.many), *words])
        self.board = board
        self.clues = {spot: clues[spot] for spot in clues}
        self.text = f"{self.text}{body} {figure_of(body)}\n"
        self.many += 1
        return many

    def answer(self, words):
        """Return the first solution, sure squares, a square's numbers, or a paper's size; BadText, NoSuch, NoWay."""
        board = self.here().given(self.clues)
        if len(words) == 1 and words[0] == "solve":
            found = solutions(board, 1)
            if found == ():
                raise NoWay("the board has no solution")
            return "/".join(told(found[0], self.size(), self.size()))
        if len(words) == 1 and words[0] == "sure":
            table = sure(board)
            return " ".join([f"{told_square(spot)}{table[spot]}" for spot in table])
        if len(words) == 2 and words[0] == "may":
            spot = square_of(words[1])
            table = possible(board)
            if spot not in table:
                raise NoSuch("the board hasn't such a square")
            return "".join([str(value) for value in table[spot]])
        if len(words) == 1 and words[0] == "paper":
            paper = paper_for(board)
            steps, choices = size_of(paper)
            return f"{len(check_paper(board, paper))} {steps} {choices}"
        raise BadText("there is no such line")


def lines_of(text):
    """Return the lines of a written text, a row without an end left out; BadStore."""
    lines = []
    for place, row in enumerate(text.split("\n")[:-1]):
        body, _, figure = row.rpartition(" ")
        head, _, line = body.partition(" ")
        if head != str(place) or figure != str(figure_of(body)):
            raise BadStore("a row isn't whole")
        lines.append(line)
    return tuple(lines)


def done_again(text):
    """Return the desk that a text's lines make from nothing; BadStore for what can't be."""
    desk = Desk()
    for line in lines_of(text):
        try:
            desk.do(line)
        except GridFault:
            raise BadStore("a line can't be done") from None
    # A row that no desk writes, as an answer's, isn't made by doing its line.
    if desk.text != text[:text.rfind("\n") + 1]:
        raise BadStore("the lines don't make the text")
    return desk
