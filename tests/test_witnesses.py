"""Points 26 and 27: witnesses of the rating of an item."""

import unittest

from cases import CallCase
from oracles import all_groups, are_witnesses, downward_groups, goes_down, goes_up, number, numbers, told, upward_groups
from poolmarks import witnesses
from poolmarks.ratings import best_rating
from poolmarks.witnesses import check_witnesses, find_witnesses
from samples import GRID, MARK, P, SPREAD
from samples import any_values, drawn_panels, edge_panels, known_panels, lowest_terms, many_panels, near_fractions

RIGHT = ((2, 1), (0, 1, 2), (0, 1))


class TestFindWitnesses(CallCase):
    def check_found(self, panel, item):
        found = self.call(find_witnesses, panel, item)
        self.assertIs(type(found), tuple)
        value, up, down = found
        self.check_fraction(value)
        self.check_group(up)
        self.check_group(down)
        rating = numbers(best_rating(panel))
        self.assertEqual(number(value), rating[item])
        self.assertEqual(up, tuple(other for other, part in enumerate(rating) if part >= rating[item]))
        self.assertEqual(down, tuple(other for other, part in enumerate(rating) if part <= rating[item]))
        return found

    def test_all_closed_groups(self):
        for panel in drawn_panels(320, 60, items=6) + drawn_panels(321, 12) + [P]:
            for item in range(len(panel[0])):
                with self.subTest(panel=panel, item=item):
                    value, up, down = self.check_found(panel, item)
                    self.assertTrue(are_witnesses(panel, item, number(value), up, down))

    def test_edges(self):
        for name, panel in edge_panels().items():
            for item in range(0, len(panel[0]), 2):
                with self.subTest(name=name, item=item):
                    value, up, down = self.check_found(panel, item)
                    self.assertTrue(are_witnesses(panel, item, number(value), up, down))

    def test_known_ratings(self):
        for panel, rating in known_panels(322, 120):
            for item in range(len(panel[0])):
                with self.subTest(panel=panel, item=item):
                    self.assertEqual(self.check_found(panel, item)[0], rating[item])

    def test_known_results(self):
        self.assertEqual(find_witnesses(P, 1), ((2, 1), (0, 1, 2), (0, 1)))
        self.assertEqual(find_witnesses(P, 2), ((3, 1), (2,), (0, 1, 2)))
        self.assertEqual(find_witnesses((((5, 3),), ()), 0), ((5, 1), (0,), (0,)))

    def test_equal_ratings_that_no_rule_connects(self):
        panel = edge_panels()["equal averages that no rule connects"]
        everything = (0, 1, 2, 3, 4)
        for item in everything:
            self.assertEqual(find_witnesses(panel, item), ((2, 1), everything, everything))


class TestCheckWitnesses(CallCase):
    def check_value(self, panel, item, value, expected):
        self.assertIs(self.call(check_witnesses, panel, item, value), expected)

    def test_what_find_witnesses_returns(self):
        for panel in many_panels(323, 25):
            for item in range(len(panel[0])):
                with self.subTest(panel=panel, item=item):
                    self.check_value(panel, item, find_witnesses(panel, item), True)

    def test_each_pair_of_closed_groups(self):
        others = 0
        wrong = 0
        for panel in drawn_panels(324, 60, items=4, rules=4, mark=3, weight=2) + [P]:
            rating = numbers(best_rating(panel))
            for item in range(len(panel[0])):
                for up in upward_groups(panel):
                    for down in downward_groups(panel):
                        expected = are_witnesses(panel, item, rating[item], up, down)
                        value = (told(rating[item]), up, down)
                        others += expected and value != find_witnesses(panel, item)
                        wrong += not expected
                        with self.subTest(panel=panel, item=item, value=value):
                            self.check_value(panel, item, value, expected)
        self.assertGreater(min(others, wrong), 200)

    def test_each_pair_of_groups(self):
        panels = drawn_panels(325, 14, items=3, rules=4) + [P, (((4, 1), (1, 2), (2, 1)), ((0, 1), (1, 0)))]
        for panel in panels:
            rating = numbers(best_rating(panel))
            for item in range(len(panel[0])):
                for up in all_groups(panel):
                    for down in all_groups(panel):
                        closed = goes_up(panel, up) and item in up and goes_down(panel, down) and item in down
                        expected = closed and are_witnesses(panel, item, rating[item], up, down)
                        with self.subTest(panel=panel, item=item, up=up, down=down):
                            self.check_value(panel, item, (told(rating[item]), up, down), expected)

    def test_other_values(self):
        for panel in drawn_panels(326, 30) + [P, (SPREAD, GRID), edge_panels()["limits, sixteen rules"]]:
            for item in range(0, len(panel[0]), 2):
                value, up, down = find_witnesses(panel, item)
                others = near_fractions(value) + [(value[0] + 1, value[1]), (value[0] - 1, value[1])]
                for other in [lowest_terms(*other) for other in others] + [(10 ** 30 - 1, 1), (-MARK, 1)]:
                    if other != value:
                        with self.subTest(panel=panel, item=item, other=other):
                            self.check_value(panel, item, (other, up, down), False)

    def test_another_value_has_no_witnesses(self):
        # Whatever groups are taken, only the best rating has witnesses.
        for panel in drawn_panels(327, 12, items=3, rules=3):
            for item in range(len(panel[0])):
                best = best_rating(panel)[item]
                for value in ((best[0] + best[1], best[1]), (best[0] - best[1], best[1]), *near_fractions(best)[:2]):
                    for up in upward_groups(panel):
                        for down in downward_groups(panel):
                            self.check_value(panel, item, (value, up, down), False)

    def test_fractions_that_are_not_in_lowest_terms(self):
        for panel in (P, (((5, 3),), ()), (SPREAD, GRID)):
            for item in range(len(panel[0])):
                (top, bottom), up, down = find_witnesses(panel, item)
                wrong = [(2 * top, 2 * bottom), (-top, -bottom), (top, 0), [top, bottom], (top, bottom, 1), (top,), top,
                         (top, True), (True, bottom), f"{top}", None]
                for value in wrong:
                    with self.subTest(panel=panel, item=item, value=value):
                        self.check_value(panel, item, (value, up, down), False)

    def test_groups_that_are_not_closed_or_lack_the_item(self):
        self.check_value(P, 0, RIGHT, True)
        for up in ((), (0,), (1,), (1, 2), (0, 1), (0, 2), (2,)):
            self.check_value(P, 0, ((2, 1), up, (0, 1)), False)
        for down in ((), (1,), (2,), (0, 2), (1, 2)):
            self.check_value(P, 0, ((2, 1), (0, 1, 2), down), False)

    def test_wrong_forms(self):
        value, up, down = RIGHT
        wrong = [
            (), (value,), (value, up), (value, up, down, down), [value, up, down], (value, down, up), (up, value, down),
            (value, list(up), down), (value, up, list(down)), (value, (2, 1, 0), down), (value, up, (1, 0)),
            (value, (0, 1, 1, 2), down), (value, up, (0, 0, 1)), (value, (0, 1, 2, 3), down), (value, up, (-1, 0, 1)),
            (value, (False, 1, 2), down), (value, (0, True, 2), down), (value, up, (False, True)), (value, up, (0, True)),
            (value, (0, 1, "2"), down), (value, None, down), (value, up, None), (value, 0, 0), (value, {}, {}),
            ((2, True), up, down), ((True, 1), up, down), ([2, 1], up, down), ("2", up, down), (2, up, down),
            {"value": value}, "((2, 1), (0, 1, 2), (0, 1))",
        ]
        for other in wrong:
            with self.subTest(other=other):
                self.check_value(P, 0, other, False)

    def test_true_is_not_1(self):
        panel = (((1, 1), (1, 1)), ())
        self.check_value(panel, 1, ((1, 1), (1,), (0, 1)), True)
        self.check_value(panel, 1, ((1, 1), (True,), (0, 1)), False)
        self.check_value(panel, 1, ((1, 1), (1,), (False, 1)), False)
        self.check_value(panel, 1, ((True, 1), (1,), (0, 1)), False)
        self.check_value(panel, 1, ((1, True), (1,), (0, 1)), False)

    def test_values_of_all_kinds(self):
        value, up, down = RIGHT
        for other in any_values():
            with self.subTest(other=other):
                for item in range(3):
                    self.check_value(P, item, other, False)
                self.check_value(P, 0, (other, up, down), False)
                self.check_value(P, 0, (value, other, down), False)
                self.check_value(P, 0, (value, up, other), False)
                self.check_value(P, 0, (other, other, other), False)


class TestInterface(CallCase):
    def test_each_function_is_defined_in_this_module(self):
        self.check_module(witnesses, ("find_witnesses", "check_witnesses"))

    def test_no_call_takes_long(self):
        for name, panel in edge_panels().items():
            for item in range(len(panel[0])):
                with self.subTest(name=name, item=item):
                    self.check_time(find_witnesses, panel, item)
                    self.check_time(check_witnesses, panel, item, find_witnesses(panel, item))


if __name__ == "__main__":
    unittest.main()
