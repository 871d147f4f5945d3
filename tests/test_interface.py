"""The interface of what has landed: each name in its own file, with its arguments, each method in its class."""

import importlib
import inspect
import unittest

INTERFACE = {
    "errors": """
        class GridFault
        class BadSquare
        class BadRule
        class BadStep
        class BadPaper
        class BadSize
        class BadText
        class BadStore
        class NoWay
        class NoSuch
    """,
    "squares": """
        check_size(high, wide)
        all_squares(high, wide)
        row_of(y, wide)
        column_of(x, high)
        beside(spot, high, wide)
        around(spot, high, wide)
        boxes(high, wide, tall, broad)
        lots_of(rows)
        check_rows(rows)
        hangs(spots)
        parts_of(spots)
        told(table, high, wide, bare='.')
        read(rows, bare='.')
        turned(table, high, wide)
        mirrored(table, wide)
    """,
    "rules": """
        class Unlike
        Unlike.__init__(spots)
        Unlike.may(values)
        Unlike.shown()
        class Sum
        Sum.__init__(spots, whole)
        Sum.may(values)
        Sum.shown()
        class Less
        Less.__init__(one, other)
        Less.may(values)
        Less.shown()
        class Gap
        Gap.__init__(one, other, much)
        Gap.may(values)
        Gap.shown()
        class Tops
        Tops.__init__(spots, count)
        Tops.may(values)
        Tops.shown()
        class Runs
        Runs.__init__(spots, runs)
        Runs.may(values)
        Runs.shown()
        class Count
        Count.__init__(spots, value, count)
        Count.may(values)
        Count.shown()
        check_spots(spots)
        tops(values)
        runs_of(values)
        kept(rule, table)
    """,
    "boards": """
        class Board
        Board.__init__(values, rules)
        Board.all_spots()
        Board.given(clues)
        Board.without(spot, value)
        Board.may(table)
        Board.keeps(table)
        Board.shown()
        in_order(values)
        latin(size, more=())
        boxed(tall, broad, more=())
        joined(one, other)
    """,
    "search": """
        solutions(board, most=None)
        lay(board, spots, table, found, most)
        fits(board, spot, table)
        first(board)
        how_many(board, most=None)
        is_unique(board)
        sure(board)
        possible(board)
        chances(board, spot)
    """,
    "steps": """
        follows(values, rule)
        row_by_row(values, rule, row, good)
        next_step(values, rules)
        steps(board)
        taken(values, step)
        check_steps(board, rows)
        is_done(values)
        is_closed(values)
        only_places(values, rule)
        told_step(step)
        hardness(board)
    """,
    "papers": """
        paper_for(board)
        first_open(values)
        with_value(board, values, spot, value)
        less(board, values, spot, value)
        check_paper(board, paper)
        check_unique(board, paper)
        check_none(board, paper)
        size_of(paper)
        depth_of(paper)
        solved(board)
        choice_free(board)
        narrowed(board, table)
    """,
    "makers": """
        clues_for(board, table, order)
        others_for(board, clues)
        check_needed(board, clues, paper, others)
        made(board, table, order)
        fewest(board, table)
        quarrels(board, tables)
        hits_all(clues, lots)
    """,
    "latins": """
        check_latin(rows)
        cyclic(size, step=1)
        all_latins(size)
        orders_of(size)
        apart(one, other)
        renamed(rows, names)
        moved(rows, downs, rights)
        flipped(rows)
        plain(rows)
        are_square(one, other)
        choices(rows)
        mate(rows)
        cover(lots, taken, size)
        swaps(rows)
    """,
    "cages": """
        class Cage
        Cage.__init__(spots, whole, deed)
        Cage.may(values)
        Cage.shown()
        product(values)
        made_by(values, deed)
        cages_of(rows, goals)
        cage_board(rows, goals)
        goals_of(rows, table, deeds)
        rows_that_make(many, whole, deed, numbers)
    """,
    "pictures": """
        check_line(runs, size)
        all_lines(runs, size)
        sure_line(runs, known)
        agrees(row, known)
        runs_both(rows)
        filled(rows, columns)
        board_of(rows, columns)
        pictures(rows, columns, most=None)
        is_plain(picture)
        spare(runs, size)
        how_many_lines(runs, size)
    """,
    "mines": """
        shared(one, other)
        counts_of(spots, high, wide)
        check_shown(shown, high, wide)
        ways(shown, high, wide, many=None)
        place_on(known, spots, row, place, high, wide, many, found)
        may_hide(known, row, left, high, wide)
        sure_squares(shown, high, wide, many=None)
        hidden_chances(shown, high, wide, many)
        safest(shown, high, wide, many)
        opened(hidden, spot, high, wide)
        fewest_clicks(hidden, high, wide)
        told_by(hidden, open_spots, high, wide)
    """,
    "lights": """
        changed(spot, high, wide)
        pressed(lit, presses, high, wide)
        rows_for(high, wide)
        added(one, other)
        one_way(lit, high, wide)
        quiet_lots(high, wide)
        all_presses(lit, high, wide)
        fewest_presses(lit, high, wide)
        why_not(lit, high, wide)
        check_why_not(lit, lot, high, wide)
        by_first_row(lit, high, wide, first)
    """,
    "loops": """
        edges_of(high, wide)
        round_square(spot)
        check_clues(clues, high, wide)
        is_loop(edges)
        loops(clues, high, wide, most=None)
        lay_edges(known, edges, row, place, most, found)
        may_go(known, edges, row, place)
        near_corner(corner)
        inside(edges, high, wide)
        clues_of(edges, high, wide)
        about(spots)
        check_loop(clues, edges, high, wide)
    """,
    "walls": """
        check_heads(heads, high, wide)
        lots_from(start, size, free, high, wide)
        boxes_from(start, size, free)
        partings(heads, high, wide, box=False, most=None)
        part_on(known, left, table, free, high, wide, box, most, found)
        check_parting(heads, table, high, wide, box=False)
        is_box(spots)
        letters_of(table, high, wide)
        edges_between(table)
        sums_kept(table, numbers)
    """,
    "rivers": """
        check_hills(hills, high, wide)
        pools(spots, high, wide)
        rivers(hills, high, wide, most=None)
        flow_on(known, left, table, high, wide, most, found)
        water_of(table, high, wide)
        check_rivers(hills, table, high, wide)
        sure_water(hills, high, wide)
    """,
    "paths": """
        near_of(spot, high, wide, slant)
        check_marks(marks, high, wide)
        paths(marks, high, wide, slant=False, most=None)
        go_on(known, places, row, high, wide, slant, most, found)
        check_path(marks, row, high, wide, slant=False)
        check_pairs(pairs, high, wide)
        links(pairs, high, wide, full=True, most=None)
        link_on(known, left, table, taken, high, wide, full, most, found)
        ways_between(start, end, taken, high, wide)
        check_links(pairs, table, high, wide, full=True)
        shortest(pairs, high, wide)
    """,
    "bridges": """
        check_islands(islands)
        pairs_of(islands)
        cross(one, other)
        all_bridges(islands, most=None)
        build(known, pairs, table, place, most, found)
        may_build(known, pairs, table, place)
        hang_together(known, table)
        check_bridges(islands, table)
        bridge_counts(table)
        sure_bridges(islands)
    """,
    "words": """
        slots_of(rows)
        runs_in(spots, rows)
        check_list(words)
        fillings(rows, words, most=None, twice=False)
        fill_on(slots, words, known, row, most, twice, found)
        filled_rows(rows, row)
        crossings(rows)
        numbers_of(rows)
        hidden_at(rows, word)
        stands(rows, word, spot, step)
        ladder(start, end, words)
        unlike(one, other)
    """,
    "stars": """
        check_many(rows, many)
        stars(rows, many, most=None)
        put_on(rows, letters, many, row, y, most, found)
        row_choices(size, many, y)
        may_hold(rows, letters, many, here, y)
        check_stars(rows, many, lot)
        partners(posts, downs, rights, most=None)
        join_on(posts, table, downs, rights, most, found)
        check_partners(posts, downs, rights, table)
    """,
    "shades": """
        check_numbers(rows)
        twice(rows, spot, shaded)
        clashes(rows)
        shadings(rows, most=None)
        shade_on(rows, spots, row, place, most, found)
        check_shading(rows, lot)
        sure_shades(rows)
        fewest_shades(rows)
        shown_shades(rows, lot)
    """,
    "twins": """
        check_even(size)
        is_line(row)
        all_even_lines(size)
        may_begin(row, size)
        twins(size, known, most=None)
        grow(size, known, lines, rows, most, found)
        check_twins(rows, known)
        line_steps(row)
        must(row, place, number)
        fewest_known(rows)
    """,
    "bones": """
        all_bones(most)
        check_field(rows, most)
        bone_at(rows, one, other)
        layings(rows, most, first=None)
        lay_on(rows, spots, taken, table, first, found)
        check_laying(rows, most, table)
        places_of(rows, most)
        forced(rows, most)
        chains(bones, count)
    """,
    "slides": """
        check_board(rows)
        blocks_of(rows)
        moved_block(rows, letter, step)
        next_boards(rows)
        is_at(rows, letter, spot)
        all_boards(rows)
        fewest_moves(rows, letter, spot)
        after_moves(rows, moves)
        check_moves(rows, letter, spot, moves, table)
        left_table(rows, letter, spot)
    """,
    "desks": """
        number(word)
        square_of(word)
        told_square(spot)
        figure_of(text)
        class Desk
        Desk.__init__()
        Desk.say(line)
        Desk.do(line)
        Desk.here()
        Desk.rule_of(words)
        Desk.size()
        Desk.let(board, clues, words)
        Desk.answer(words)
        lines_of(text)
        done_again(text)
    """,
}


def told_of(function):
    """Return a function's arguments as the interface writes them, without a method's own object."""
    rows = []
    for name, told in inspect.signature(function).parameters.items():
        if name != "self":
            rows.append(name if told.default is told.empty else f"{name}={told.default!r}")
    return "(" + ", ".join(rows) + ")"


class TestInterface(unittest.TestCase):
    def names(self):
        for file, rows in INTERFACE.items():
            module = importlib.import_module("cluewright." + file)
            for row in rows.split("\n"):
                if row.strip() != "":
                    yield module, row.strip()

    def test_each_name_stands_in_its_file(self):
        for module, row in self.names():
            if row.startswith("class "):
                found = module.__dict__[row[6:]]
                self.assertTrue(inspect.isclass(found), row)
                self.assertEqual(found.__module__, module.__name__, row)
                self.assertTrue(found.__doc__, row)
                continue
            name = row[:row.index("(")]
            if "." in name:
                kind, name = name.split(".")
                found = module.__dict__[kind].__dict__[name]
            else:
                found = module.__dict__[name]
            self.assertTrue(inspect.isfunction(found), row)
            self.assertEqual(found.__module__, module.__name__, row)
            self.assertEqual(told_of(found), row[row.index("("):], row)


if __name__ == "__main__":
    unittest.main()
