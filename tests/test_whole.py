"""Point 1 over the whole program: the kind of what each def gives, rows within as tuples, and what is handed in kept."""

import copy
import importlib
import unittest

from cluewright.boards import Board, boxed, latin
from cluewright.cages import Cage
from cluewright.errors import GridFault
from cluewright.makers import clues_for, others_for
from cluewright.papers import paper_for
from cluewright.rules import Count, Gap, Less, Runs, Sum, Tops, Unlike
from cluewright.search import first
from cluewright.slides import left_table
from cluewright.steps import steps

TWO = latin(2)
FOUR = boxed(2, 2)
ONE = first(TWO)
LEFT = {(0, 0): [1], (0, 1): [1, 2]}
ROW = [(0, 0), (0, 1)]
PAIR = {((0, 0), (0, 1)): 1}
THREE = [[1, 2, 3], [2, 3, 1], [3, 1, 2]]
# A square's four edges.
EDGES = [((0, 0), (0, 1)), ((0, 0), (1, 0)), ((0, 1), (1, 1)), ((1, 0), (1, 1))]

# By files: rows of (name, kind of what it gives, what is handed in), lists wherever rows or lots are.
GIVEN = {
    "squares": [
        ("check_size", tuple, 2, 3), ("all_squares", tuple, 2, 3), ("row_of", tuple, 1, 3), ("column_of", tuple, 1, 3),
        ("beside", tuple, (0, 0), 2, 2), ("around", tuple, (0, 0), 2, 2), ("boxes", tuple, 2, 2, 1, 2),
        ("lots_of", dict, ["ab", "ba"]), ("check_rows", tuple, ["ab", "ba"]), ("parts_of", tuple, [(0, 0), (2, 2)]),
        ("told", tuple, {(0, 0): 1}, 2, 2), ("read", dict, ["1.", ".2"]), ("turned", dict, {(0, 0): 1}, 2, 2),
        ("mirrored", dict, {(0, 0): 1}, 2)],
    "rules": [("check_spots", tuple, ROW), ("runs_of", tuple, [1, 0, 1])],
    "boards": [("in_order", tuple, [2, 1, 2])],
    "search": [
        ("solutions", tuple, TWO), ("first", dict, TWO), ("sure", dict, TWO), ("possible", dict, TWO),
        ("chances", tuple, TWO, (0, 0))],
    "steps": [
        ("follows", tuple, LEFT, Unlike(ROW)), ("next_step", tuple, LEFT, [Unlike(ROW)]), ("steps", tuple, FOUR),
        ("taken", dict, LEFT, (0, (0, 1), 1)), ("check_steps", dict, TWO, []),
        ("only_places", tuple, {(0, 0): [1, 2], (0, 1): [1]}, Unlike(ROW)), ("hardness", tuple, TWO)],
    "papers": [
        ("paper_for", tuple, TWO), ("first_open", tuple, LEFT), ("check_paper", tuple, TWO, paper_for(TWO)),
        ("check_unique", dict, latin(1), paper_for(latin(1))), ("size_of", tuple, paper_for(TWO)),
        ("solved", dict, TWO.given({(0, 0): 1}))],
    "makers": [
        ("clues_for", dict, TWO, ONE, list(ONE)), ("others_for", dict, TWO, {(0, 0): 1}),
        ("check_needed", dict, TWO, {(0, 0): 1}, paper_for(TWO.given({(0, 0): 1})), others_for(TWO, {(0, 0): 1})),
        ("made", tuple, TWO, ONE, list(ONE)), ("fewest", dict, TWO, ONE), ("quarrels", tuple, TWO, [ONE, ONE])],
    "latins": [
        ("check_latin", tuple, THREE), ("cyclic", tuple, 3, 2), ("all_latins", tuple, 3), ("orders_of", list, 3),
        ("renamed", tuple, THREE, [3, 2, 1]), ("moved", tuple, THREE, [2, 1, 0], [0, 2, 1]), ("flipped", tuple, THREE),
        ("plain", tuple, THREE), ("choices", tuple, THREE), ("mate", tuple, THREE),
        ("cover", list, [(0, 1), (1, 0)], (), 2), ("swaps", tuple, [[1, 2], [2, 1]])],
    "cages": [
        ("cages_of", tuple, ["ab", "ab"], {"a": (3, "+"), "b": (2, "x")}),
        ("goals_of", dict, ["ab", "ab"], ONE, ["-", "+"]), ("rows_that_make", tuple, 2, 3, "+", [1, 2, 3])],
    "pictures": [
        ("check_line", tuple, [1, 1], 4), ("all_lines", tuple, [1, 1], 4), ("sure_line", tuple, [2], [None, None, None]),
        ("runs_both", tuple, [[1, 0], [1, 1]]), ("filled", tuple, [[1], [2]], [[2], [1]]),
        ("pictures", tuple, [[1], [1]], [[1], [1]])],
    "mines": [
        ("counts_of", dict, [(0, 0)], 2, 2), ("check_shown", dict, {(0, 0): 1}, 2, 2),
        ("ways", tuple, {(0, 0): 1}, 2, 2), ("sure_squares", tuple, {(0, 0): 3}, 2, 2),
        ("hidden_chances", dict, {(0, 0): 1}, 2, 2, 1), ("safest", tuple, {(0, 0): 1}, 2, 2, 1),
        ("opened", tuple, [(0, 0)], (2, 2), 3, 3), ("fewest_clicks", tuple, [(0, 0)], 3, 3),
        ("told_by", dict, [(0, 0)], [(0, 1)], 2, 2)],
    "lights": [
        ("changed", tuple, (0, 0), 2, 2), ("pressed", tuple, [(0, 0)], [(0, 1)], 2, 2), ("rows_for", list, 2, 2),
        ("added", dict, {1: True}, {2: True}), ("one_way", tuple, [(0, 0)], 2, 2), ("quiet_lots", tuple, 1, 2),
        ("all_presses", tuple, [(0, 0), (0, 1)], 1, 2), ("fewest_presses", tuple, [(0, 0), (0, 1)], 1, 2),
        ("why_not", tuple, [(0, 0)], 1, 2), ("by_first_row", tuple, [(0, 0)], 2, 2, [(0, 1)])],
    "loops": [
        ("edges_of", tuple, 1, 1), ("round_square", tuple, (0, 0)), ("check_clues", dict, {(0, 0): 4}, 1, 1),
        ("loops", tuple, {(0, 0): 4}, 1, 2), ("near_corner", tuple, (1, 1)), ("inside", tuple, EDGES, 1, 1),
        ("clues_of", dict, EDGES, 1, 1), ("about", tuple, [(0, 0)])],
    "walls": [
        ("check_heads", dict, {(0, 0): 2}, 1, 2), ("lots_from", tuple, (0, 0), 2, {(0, 1): True}, 1, 2),
        ("boxes_from", tuple, (0, 0), 2, {(0, 1): True}), ("partings", tuple, {(0, 0): 2}, 1, 2),
        ("letters_of", tuple, {(0, 0): ROW}, 1, 2), ("sums_kept", dict, {(0, 0): ROW}, {(0, 0): 1})],
    "rivers": [
        ("check_hills", dict, {(0, 0): 1}, 1, 2), ("pools", tuple, [(0, 0), (0, 1), (1, 0), (1, 1)], 2, 2),
        ("rivers", tuple, {(0, 0): 1}, 1, 2), ("water_of", tuple, {(0, 0): [(0, 0)]}, 1, 2),
        ("sure_water", tuple, {(0, 0): 1}, 1, 2)],
    "paths": [
        ("near_of", tuple, (0, 0), 2, 2, True), ("check_marks", dict, {(0, 0): 1}, 2, 2),
        ("paths", tuple, {(0, 0): 1}, 2, 2), ("check_pairs", dict, {"a": ROW}, 1, 2),
        ("links", tuple, {"a": ROW}, 2, 2), ("ways_between", tuple, (0, 0), (1, 1), {(0, 1): True}, 2, 2),
        ("shortest", dict, {"a": ROW}, 2, 2)],
    "bridges": [
        ("check_islands", dict, {(0, 0): 1}), ("pairs_of", tuple, {(0, 0): 1, (0, 1): 1}),
        ("all_bridges", tuple, {(0, 0): 1, (0, 1): 1}), ("bridge_counts", dict, PAIR),
        ("sure_bridges", dict, {(0, 0): 1, (0, 1): 1})],
    "words": [
        ("slots_of", tuple, ["..", ".#"]), ("runs_in", list, ROW, ["..", ".#"]), ("check_list", list, ["b", "a"]),
        ("fillings", tuple, ["..", ".#"], ["ab", "ac"]), ("filled_rows", tuple, ["..", ".#"], ["ab", "ac"]),
        ("crossings", tuple, ["..", ".#"]), ("numbers_of", dict, ["..", ".#"]), ("hidden_at", tuple, ["ab", "ba"], "ab"),
        ("ladder", tuple, "ab", "bb", ["aa"])],
    "stars": [
        ("check_many", dict, ["ab", "ab"], 1), ("stars", tuple, ["abcd"] * 4, 1), ("row_choices", list, 4, 2, 0),
        ("partners", tuple, [(0, 0)], [1, 0], [0, 1])],
    "shades": [
        ("check_numbers", tuple, [[1, 1]]), ("clashes", tuple, [[1, 1]]), ("shadings", tuple, [[1, 1]]),
        ("sure_shades", tuple, [[1, 2, 2]]), ("fewest_shades", tuple, [[1, 1]]),
        ("shown_shades", tuple, [[1, 1]], [(0, 0)])],
    "twins": [
        ("all_even_lines", tuple, 4), ("twins", tuple, 2, {(0, 0): 1}), ("line_steps", tuple, [0, 0, None, None]),
        ("fewest_known", dict, [[0, 1], [1, 0]])],
    "bones": [
        ("all_bones", tuple, 1), ("check_field", tuple, [[0, 0]], 0), ("bone_at", tuple, [[1, 0]], (0, 0), (0, 1)),
        ("layings", tuple, [[0, 0, 1], [0, 1, 1]], 1), ("places_of", dict, [[0, 0, 1], [0, 1, 1]], 1),
        ("forced", tuple, [[0, 0]], 0), ("chains", tuple, [(0, 1), (1, 1)], 2)],
    "slides": [
        ("check_board", tuple, ["a."]), ("blocks_of", tuple, ["a."]), ("moved_block", tuple, ["a."], "a", (0, 1)),
        ("next_boards", tuple, ["a."]), ("all_boards", dict, ["a."]), ("fewest_moves", tuple, ["a."], "a", (0, 1)),
        ("after_moves", tuple, ["a."], [("a", (0, 1))]), ("left_table", dict, ["a."], "a", (0, 1))],
    "desks": [("square_of", tuple, "a1"), ("lines_of", tuple, "")],
}

# Where there is no answer, None is given.
NONE = [
    ("steps", "next_step", {(0, 0): (1,)}, ()), ("latins", "mate", [[1, 2], [2, 1]]),
    ("latins", "cover", [(0, 1)], (), 2), ("cages", "made_by", [2, 3], "/"), ("lights", "fewest_presses", [(0, 0)], 1, 2),
    ("lights", "why_not", [], 1, 2), ("paths", "shortest", {"a": [(0, 0), (0, 2)], "b": [(0, 1), (0, 3)]}, 1, 4),
    ("words", "ladder", "ab", "ba", []), ("slides", "moved_block", ["a#"], "a", (0, 1)),
]


def lists_within(value):
    """Tell whether a list stands in a value, itself left out."""
    if isinstance(value, dict):
        rows = [*value, *value.values()]
    elif isinstance(value, (list, tuple)):
        rows = list(value)
    else:
        rows = []
    return any(isinstance(row, list) or lists_within(row) for row in rows)


def shown(value):
    """Return what can be compared: a board or a rule by what it shows."""
    if isinstance(value, list):
        return [shown(one) for one in value]
    return value.shown() if hasattr(value, "shown") else value


class TestKinds(unittest.TestCase):
    def test_each_def_gives_its_kind_and_keeps_what_is_handed_in(self):
        for file, rows in GIVEN.items():
            module = importlib.import_module("cluewright." + file)
            for name, kind, *handed in rows:
                before = copy.deepcopy([shown(one) for one in handed])
                found = module.__dict__[name](*handed)
                self.assertIs(type(found), kind, name)
                self.assertFalse(lists_within(found), name)
                self.assertEqual([shown(one) for one in handed], before, name)

    def test_what_can_be_bare_is_not_bare_here(self):
        for file, rows in GIVEN.items():
            for name, kind, *handed in rows:
                if name not in ("sure", "only_places", "check_steps", "quarrels", "lines_of", "why_not"):
                    found = importlib.import_module("cluewright." + file).__dict__[name](*handed)
                    self.assertTrue(len(found) > 0, name)

    def test_no_answer_is_none(self):
        for file, name, *handed in NONE:
            self.assertIsNone(importlib.import_module("cluewright." + file).__dict__[name](*handed), name)

    def test_rules_and_boards(self):
        rules = [Unlike(ROW), Sum(ROW, 3), Less((0, 0), (0, 1)), Gap((0, 0), (0, 1), 1), Tops(ROW, 2), Runs(ROW, [1]),
                 Count(ROW, 1, 1), Cage(ROW, 3, "+")]
        for rule in rules:
            self.assertIs(type(rule.spots), tuple)
            self.assertIs(type(rule.shown()), tuple)
            self.assertFalse(lists_within(rule.shown()))
        board = Board({spot: [2, 1] for spot in ROW}, rules)
        self.assertIs(type(board.rules), tuple)
        self.assertEqual(board.options, {spot: (1, 2) for spot in ROW})
        for told in (board.all_spots(), board.shown()):
            self.assertIs(type(told), tuple)
            self.assertFalse(lists_within(told))

    def test_each_error_is_a_grid_fault(self):
        for told in (lambda: latin(0), lambda: Unlike(()), lambda: clues_for(TWO, {}, ()), lambda: TWO.given({(5, 5): 1}),
                     lambda: left_table((), "a", (0, 0)), lambda: first(Board({(0, 0): (1,)}, [Sum([(0, 0)], 2)]))):
            self.assertRaises(GridFault, told)
        self.assertTrue(issubclass(GridFault, ValueError))
        self.assertEqual(len(steps(FOUR)), 2)


if __name__ == "__main__":
    unittest.main()
