"""Point 3 and 20: rules, what they keep, what may still be kept, what they show, and their fields."""

import unittest
from itertools import product

import brute
from cluewright.errors import BadRule
from cluewright.rules import Count, Gap, Less, Runs, Sum, Tops, Unlike, check_spots, kept, runs_of, tops

ROW = ((0, 0), (0, 1), (0, 2))
PAIR = ((0, 0), (0, 1))


def each_rule():
    return [Unlike(ROW), Sum(ROW, 3), Sum(ROW, 0), Less(*PAIR), Gap(*PAIR, 2), Gap(*PAIR, 0), Tops(ROW, 1),
            Tops(ROW, 2), Tops(ROW, 3), Runs(ROW, (1, 1)), Runs(ROW, (2,)), Runs(ROW, ()), Count(ROW, 1, 2),
            Count(ROW, 0, 0), Count(ROW, 2, 3), Unlike(((4, 4),)), Sum(((4, 4),), 2), Tops(((4, 4),), 1),
            Runs(((4, 4),), [1]), Count(((4, 4),), 1, 1)]


class TestAllRules(unittest.TestCase):
    def test_all_known_is_as_told(self):
        for rule in each_rule():
            for row in product(range(3), repeat=len(rule.spots)):
                due = brute.holds(rule.shown(), row)
                self.assertIs(rule.may(row), due, (rule.shown(), row))
                self.assertIs(rule.may(list(row)), due)
                self.assertIs(kept(rule, dict(zip(rule.spots, row))), due)

    def test_what_can_go_on_may(self):
        for rule in each_rule():
            for row in product((None, 0, 1, 2), repeat=len(rule.spots)):
                whole = product(*[range(3) if value is None else (value,) for value in row])
                if any(brute.holds(rule.shown(), one) for one in whole):
                    self.assertIs(rule.may(row), True, (rule.shown(), row))

    def test_with_none_known_nothing_is_kept(self):
        for rule in each_rule():
            self.assertIs(kept(rule, {}), False)
            self.assertIs(kept(rule, {spot: 1 for spot in rule.spots[1:]}), False)

    def test_handed_in_stays(self):
        for rule in each_rule():
            row = [1] + [None] * (len(rule.spots) - 1)
            table = {rule.spots[0]: 1}
            rule.may(row)
            kept(rule, table)
            self.assertEqual(row, [1] + [None] * (len(rule.spots) - 1))
            self.assertEqual(table, {rule.spots[0]: 1})

    def test_more_squares_in_a_table(self):
        self.assertIs(kept(Less(*PAIR), {(0, 0): 1, (0, 1): 2, (5, 5): 0}), True)


class TestEachMay(unittest.TestCase):
    def may(self, rule, good, bad):
        for row in good:
            self.assertIs(rule.may(row), True, row)
        for row in bad:
            self.assertIs(rule.may(row), False, row)

    def test_unlike(self):
        self.may(Unlike(ROW), [(None, None, None), (1, None, 2), (None, 0, None)], [(1, None, 1), (None, 0, 0)])

    def test_sum(self):
        self.may(Sum(ROW, 5), [(None, None, None), (5, None, None), (None, 2, 3), (1, 1, None), (0, 0, 5)],
                 [(6, None, None), (3, None, 3), (1, 1, 1), (2, 2, 2)])
        self.may(Sum(ROW, -1), [], [(None, None, None), (0, 0, 0)])

    def test_less(self):
        self.may(Less(*PAIR), [(None, None), (9, None), (None, 0), (1, 2)], [(2, 2), (3, 2)])

    def test_gap(self):
        self.may(Gap(*PAIR, 2), [(None, None), (0, None), (1, 3), (3, 1)], [(1, 2), (1, 1)])

    def test_tops_told_when_all_are_known(self):
        self.may(Tops(ROW, 1), [(None, None, None), (1, 2, None), (3, 2, 1), (3, 3, 3)], [(1, 2, 0), (1, 2, 3)])

    def test_runs_by_what_is_known_up_to_the_first_unknown(self):
        row = ROW + ((0, 3), (0, 4))
        self.may(Runs(row, (2, 1)),
                 [(None,) * 5, (1, None, None, None, None), (1, 1, None, 0, 0), (1, 1, 0, None, None),
                  (None, 1, 1, 1, 1), (1, 1, 0, 1, None), (0, 1, 1, 0, 1)],
                 [(1, 0, None, None, None), (1, 1, 1, None, None), (1, 1, 0, 1, 1), (0, 1, 0, None, 1)])
        self.may(Runs(row, ()), [(0, 0, None, 1, 1), (0, 0, 0, 0, 0)], [(0, 1, None, None, None), (1, 0, 0, 0, 0)])
        self.may(Runs(row, (1,)), [(0, 1, 0, 0, None)], [(1, 0, 1, None, None), (1, 0, 0, 1, None)])

    def test_count(self):
        self.may(Count(ROW, 7, 2), [(None, None, None), (7, 7, None), (7, None, 1), (7, 1, 7)],
                 [(7, 7, 7), (1, 1, None), (7, 1, 1)])
        self.may(Count(ROW, 7, 4), [], [(None, None, None)])
        self.may(Count(ROW, 7, 0), [(None, None, None), (1, 2, 3)], [(7, None, None)])


class TestShown(unittest.TestCase):
    def test_kinds_and_fields(self):
        self.assertEqual(Unlike(list(ROW)).shown(), ("unlike", ROW))
        self.assertEqual(Sum(list(ROW), 6).shown(), ("sum", ROW, 6))
        self.assertEqual(Less((0, 1), (0, 0)).shown(), ("less", ((0, 1), (0, 0))))
        self.assertEqual(Gap((0, 1), (0, 0), 3).shown(), ("gap", ((0, 1), (0, 0)), 3))
        self.assertEqual(Tops(list(ROW), 2).shown(), ("tops", ROW, 2))
        self.assertEqual(Runs(list(ROW), [1, 1]).shown(), ("runs", ROW, (1, 1)))
        self.assertEqual(Count(list(ROW), 5, 2).shown(), ("count", ROW, 5, 2))

    def test_fields(self):
        for rule in each_rule():
            self.assertIsInstance(rule.spots, tuple)
            self.assertEqual(rule.spots, rule.shown()[1])
        self.assertEqual(Unlike([(2, 2), (1, 1)]).spots, ((2, 2), (1, 1)))
        self.assertEqual(Sum(ROW, 6).whole, 6)
        self.assertEqual(Gap(*PAIR, 3).much, 3)
        self.assertEqual(Tops(ROW, 2).count, 2)
        self.assertEqual(Runs(ROW, [2]).runs, (2,))
        self.assertEqual((Count(ROW, 5, 2).value, Count(ROW, 5, 2).count), (5, 2))


class TestRefused(unittest.TestCase):
    def test_squares(self):
        self.assertEqual(check_spots(list(ROW)), ROW)
        for bad in ((), [], ((0, 0), (0, 0)), [(0, 1), (0, 0), (0, 1)]):
            for make in (check_spots, Unlike, lambda spots: Sum(spots, 3), lambda spots: Tops(spots, 1),
                         lambda spots: Runs(spots, ()), lambda spots: Count(spots, 1, 0)):
                self.assertRaises(BadRule, make, bad)
        self.assertRaises(BadRule, Less, (1, 1), (1, 1))
        self.assertRaises(BadRule, Gap, (1, 1), (1, 1), 1)

    def test_gap_below_nought(self):
        self.assertRaises(BadRule, Gap, (0, 0), (0, 1), -1)
        self.assertRaises(BadRule, Gap, (0, 0), (0, 0), -1)
        self.assertEqual(Gap((0, 0), (0, 1), 0).much, 0)

    def test_runs_that_do_not_fit(self):
        for runs in ((0,), (1, 0), (-1,), (4,), (2, 1), (1, 1, 1)):
            self.assertRaises(BadRule, Runs, ROW, runs)
        for runs in ((), (3,), (1, 1), (2,)):
            self.assertEqual(Runs(ROW, runs).runs, runs)
        self.assertRaises(BadRule, Runs, (), (1,))


class TestRows(unittest.TestCase):
    def test_tops(self):
        for row, due in (((), 0), ((0,), 1), ((5,), 1), ((1, 2, 3), 3), ((3, 2, 1), 1), ((1, 1, 2), 2),
                         ((0, 0), 1), ([2, 1, 3], 2)):
            self.assertEqual(tops(row), due)

    def test_runs_of(self):
        for row, due in (((), ()), ((0, 0), ()), ((1,), (1,)), ((1, 1, 0, 1), (2, 1)), ([0, 1, 0, 0, 1, 1, 1], (1, 3))):
            self.assertEqual(runs_of(row), due)
        for row in product((0, 1), repeat=9):
            self.assertEqual(runs_of(row), brute.runs(row))


if __name__ == "__main__":
    unittest.main()
