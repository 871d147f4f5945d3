"""Slides: blocks moved on a board without turning, the fewest moves to a goal, with a table that shows it."""

from cluewright.errors import BadPaper, BadText, NoWay
from cluewright.squares import check_rows, lots_of

BARE = "."
FIXED = "#"
STEPS = ((-1, 0), (0, -1), (0, 1), (1, 0))


def check_board(rows):
    """Return rows of blocks' letters, dots and walls; BadText."""
    return check_rows(rows)


def blocks_of(rows):
    """Return the blocks' letters, in order; BadText."""
    return tuple([letter for letter in lots_of(check_board(rows)) if letter not in (BARE, FIXED)])


def moved_block(rows, letter, step):
    """Return rows in which a block has gone one step, None where it can't; BadText for no block."""
    board = check_board(rows)
    lots = lots_of(board)
    if letter not in lots or letter in (BARE, FIXED):
        raise BadText("the board hasn't such a block")
    return stepped_block(board, letter, lots[letter], step)


def stepped_block(board, letter, lot, step):
    """Return a board in which a letter's squares have gone one step, None where they can't."""
    there = {(y + step[0], x + step[1]): True for y, x in lot}
    for y, x in there:
        if not 0 <= y < len(board) or not 0 <= x < len(board[0]) or board[y][x] not in (BARE, letter):
            return None
    signs = {spot: BARE for spot in lot}
    for spot in there:
        signs[spot] = letter
    return tuple(["".join([signs.get((down, right), sign) for right, sign in enumerate(row)])
                  for down, row in enumerate(board)])


def next_boards(rows):
    """Return the (letter, step, rows) of all moves: letters in order, up, left, right, down; BadText."""
    board = check_board(rows)
    lots = lots_of(board)
    moves = [(letter, step, stepped_block(board, letter, lots[letter], step))
             for letter in blocks_of(board) for step in STEPS]
    return tuple([move for move in moves if move[2] is not None])


def is_at(rows, letter, spot):
    """Tell whether a block's first square, in order, is a told one; BadText for no block."""
    lots = lots_of(check_board(rows))
    if letter not in lots:
        raise BadText("the board hasn't such a block")
    return lots[letter][0] == spot


def all_boards(rows):
    """Return a table of all boards that can be come to, to the fewest moves; BadText."""
    return moves_from([check_board(rows)])


def moves_from(boards):
    """Return a table of all boards that can be come to from some, to the fewest moves from one of these."""
    many = {board: 0 for board in boards}
    level = list(boards)
    while level != []:
        further = []
        for board in level:
            for _, _, there in next_boards(board):
                if there not in many:
                    many[there] = many[board] + 1
                    further.append(there)
        level = further
    return many


def fewest_moves(rows, letter, spot):
    """Return the fewest (letter, step) moves that bring a block's first square to a told one, first found; NoWay."""
    start = check_board(rows)
    ways = {start: ()}
    level = [start]
    while level != []:
        further = []
        for board in level:
            if is_at(board, letter, spot):
                return ways[board]
            for one, step, there in next_boards(board):
                if there not in ways:
                    ways[there] = (*ways[board], (one, step))
                    further.append(there)
        level = further
    raise NoWay("the block can't come there")


def after_moves(rows, moves):
    """Return rows behind moves; BadPaper for one that can't be, BadText."""
    here = check_board(rows)
    for letter, step in moves:
        if step not in STEPS:
            raise BadPaper("a step goes up, left, right or down by one square")
        here = moved_block(here, letter, step)
        if here is None:
            raise BadPaper("a block can't go such a step")
    return here


def check_moves(rows, letter, spot, moves, table):
    """Return how many moves there are, shown fewest by a table of boards to moves left, nought at goals, that no move
    lessens by more than one; BadPaper, BadText."""
    here = after_moves(rows, moves)
    if not is_at(here, letter, spot):
        raise BadPaper("the moves lead to another place")
    for board in all_boards(rows):
        if board not in table or (is_at(board, letter, spot) and table[board] != 0) or table[board] < 0:
            raise BadPaper("the table lacks a board, isn't nought at a goal, or is below nought")
        if any([table[board] > table.get(there, -1) + 1 for _, _, there in next_boards(board)]):
            raise BadPaper("a move lessens the table by more than one")
    if table[check_board(rows)] != len(moves):
        raise BadPaper("the table tells another number of moves")
    return len(moves)


def left_table(rows, letter, spot):
    """Return a table of all boards that can be come to, to the fewest moves left, as many as boards for none."""
    boards = all_boards(rows)
    # Each move can be taken back: so as many moves lead from a goal as to it.
    left = moves_from([board for board in boards if is_at(board, letter, spot)])
    return {board: left.get(board, len(boards)) for board in boards}
