"""Points 10 to 12: groups that rules do not lead out of."""

import unittest

from cases import CallCase
from oracles import all_groups, downward_groups, goes_down, goes_up, leads_to, upward_groups
from poolmarks import groups
from poolmarks.groups import is_downward, is_upward, items_above, items_below, upward_sets
from samples import P
from samples import any_values, drawn_panels, edge_panels, many_panels

NO_RULE = (((0, 1),) * 4, ())
OPPOSITE = (((4, 1), (1, 2), (0, 3)), ((0, 1), (1, 0)))


class TestClosed(CallCase):
    def check_value(self, panel, value):
        """Hold both functions against lists of all closed groups, by texts: these tell True from 1."""
        text = repr(value)
        self.assertIs(self.call(is_upward, panel, value), text in [repr(group) for group in upward_groups(panel)])
        self.assertIs(self.call(is_downward, panel, value), text in [repr(group) for group in downward_groups(panel)])

    def test_all_groups_of_all_panels(self):
        for panel in many_panels(10, 15):
            for group in all_groups(panel):
                with self.subTest(panel=panel, group=group):
                    self.assertIs(self.call(is_upward, panel, group), goes_up(panel, group))
                    self.assertIs(self.call(is_downward, panel, group), goes_down(panel, group))

    def test_the_empty_group_and_the_group_of_all_items(self):
        for panel in many_panels(11, 15):
            for group in ((), tuple(range(len(panel[0])))):
                with self.subTest(panel=panel, group=group):
                    self.assertIs(is_upward(panel, group), True)
                    self.assertIs(is_downward(panel, group), True)

    def test_values_of_all_kinds(self):
        for panel in (P, NO_RULE, OPPOSITE, (((5, 3),), ())):
            for value in any_values():
                with self.subTest(panel=panel, value=value):
                    self.check_value(panel, value)
                    self.check_value(panel, (value,))
                    self.check_value(panel, (0, value))
                    self.check_value(panel, (value, 1))

    def test_lists_of_closed_groups(self):
        for group in all_groups(NO_RULE):
            with self.subTest(group=group):
                self.check_value(NO_RULE, group)
                self.check_value(NO_RULE, list(group))
                self.check_value(NO_RULE, dict.fromkeys([str(item) for item in group], 1))
                self.assertIs(is_upward(NO_RULE, list(group)), False)
                self.assertIs(is_downward(NO_RULE, list(group)), False)

    def test_values_that_are_no_groups(self):
        for value in (
            (0, 0), (1, 1), (0, 1, 1), (0, 0, 1, 2, 3), (1, 0), (3, 2, 1, 0), (0, 2, 1), (0, 1, 3, 2),
            (4,), (0, 4), (0, 1, 2, 3, 4), (-1,), (-1, 0), (-4, -3, -2, -1), (10 ** 29,), (0, 10 ** 30 - 1),
            (True,), (False,), (False, True), (0, True), (False, 1), (0, True, 2), (True, 2),
            ("0",), "0", "", "01", ((0,),), ((),), ((0, 1),), ([0],), ([],), (None,), (0, None), ({},),
        ):
            with self.subTest(value=value):
                self.assertIs(self.call(is_upward, NO_RULE, value), False)
                self.assertIs(self.call(is_downward, NO_RULE, value), False)

    def test_groups_of_another_panel(self):
        for panel in drawn_panels(12, 10):
            for other in drawn_panels(13, 5):
                for group in upward_sets(other)[::3]:
                    with self.subTest(panel=panel, group=group):
                        self.check_value(panel, group)

    def test_opposite_rules_keep_items_together(self):
        self.assertEqual(
            [group for group in all_groups(OPPOSITE) if is_upward(OPPOSITE, group)],
            [(), (0, 1), (0, 1, 2), (2,)],
        )
        self.assertIs(is_downward(OPPOSITE, (0,)), False)
        self.assertIs(is_downward(OPPOSITE, (0, 1)), True)


class TestUpwardSets(CallCase):
    def test_exactly_the_upward_closed_groups_in_ascending_order(self):
        for panel in many_panels(14, 100):
            with self.subTest(panel=panel):
                found = self.call(upward_sets, panel)
                self.assertIs(type(found), tuple)
                for group in found:
                    self.check_group(group)
                self.assertEqual(list(found), upward_groups(panel))

    def test_all_groups_without_a_rule(self):
        for size in range(1, 9):
            panel = (((0, 1),) * size, ())
            with self.subTest(size=size):
                self.assertEqual(list(upward_sets(panel)), all_groups(panel))
                self.assertEqual(len(upward_sets(panel)), 2 ** size)

    def test_a_chain_and_a_round(self):
        chain = edge_panels()["a mixed chain"]
        self.assertEqual(upward_sets(chain), ((), *[tuple(range(k, 8)) for k in range(8)]))
        self.assertEqual(upward_sets(edge_panels()["a round of all items"]), ((), tuple(range(8))))

    def test_repeated_rules_change_nothing(self):
        for items, rules in drawn_panels(15, 40, rules=8):
            with self.subTest(items=items, rules=rules):
                self.assertEqual(upward_sets((items, rules + rules)), upward_sets((items, rules)))


class TestItemsAboveAndBelow(CallCase):
    def test_the_intersection_of_all_closed_groups_with_the_item(self):
        for panel in many_panels(16, 40):
            everything = range(len(panel[0]))
            ups = upward_groups(panel)
            downs = downward_groups(panel)
            for item in everything:
                above = [k for k in everything if all(k in group for group in ups if item in group)]
                below = [k for k in everything if all(k in group for group in downs if item in group)]
                with self.subTest(panel=panel, item=item):
                    self.assertEqual(self.call(items_above, panel, item), tuple(above))
                    self.assertEqual(self.call(items_below, panel, item), tuple(below))

    def test_the_items_that_rules_lead_to(self):
        for panel in many_panels(17, 60):
            everything = range(len(panel[0]))
            for item in everything:
                with self.subTest(panel=panel, item=item):
                    above = tuple(k for k in everything if leads_to(panel[1], item, k))
                    below = tuple(k for k in everything if leads_to(panel[1], k, item))
                    self.check_group(items_above(panel, item))
                    self.assertEqual(items_above(panel, item), above)
                    self.assertEqual(items_below(panel, item), below)

    def test_an_item_without_rules_is_alone(self):
        for item in range(4):
            self.assertEqual(items_above(NO_RULE, item), (item,))
            self.assertEqual(items_below(NO_RULE, item), (item,))

    def test_long_chains_in_both_directions(self):
        chain = edge_panels()["a mixed chain"]
        turned = edge_panels()["a chain against the order of the items"]
        for item in range(8):
            with self.subTest(item=item):
                self.assertEqual(items_above(chain, item), tuple(range(item, 8)))
                self.assertEqual(items_below(chain, item), tuple(range(item + 1)))
                self.assertEqual(items_above(turned, item), tuple(range(item + 1)))
                self.assertEqual(items_below(turned, item), tuple(range(item, 8)))

    def test_rounds(self):
        panel = edge_panels()["a round of all items"]
        for item in range(8):
            self.assertEqual(items_above(panel, item), tuple(range(8)))
            self.assertEqual(items_below(panel, item), tuple(range(8)))


class TestInterface(CallCase):
    def test_each_function_is_defined_in_this_module(self):
        self.check_module(groups, ("is_upward", "is_downward", "upward_sets", "items_above", "items_below"))

    def test_no_call_takes_long(self):
        for name, panel in edge_panels().items():
            with self.subTest(name=name):
                self.check_time(upward_sets, panel)
                self.check_time(items_above, panel, 0)
                self.check_time(items_below, panel, len(panel[0]) - 1)
                for value in any_values():
                    self.check_time(is_upward, panel, value)
                    self.check_time(is_downward, panel, value)


if __name__ == "__main__":
    unittest.main()
