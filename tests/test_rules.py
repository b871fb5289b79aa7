"""Points 28 to 30: adding and removing rules, and what each of them matters."""

import unittest
from fractions import Fraction

from cases import CallCase
from oracles import can_carry, corner_amounts, leads_to, needs_of, number, numbers, tight_rules, told
from poolmarks import rules
from poolmarks.amounts import find_amounts, supports_rating
from poolmarks.errors import Full
from poolmarks.panels import find_fault
from poolmarks.ratings import best_rating
from poolmarks.rules import amount_range, idle_rules, with_rule, without_rule
from samples import FALLING, GRID, MARK, P, SPREAD, WEIGHT
from samples import drawn_panels, edge_panels, known_panels, many_panels

ZERO = (0, 1)


class TestWithRule(CallCase):
    def test_the_rule_comes_last(self):
        for panel in many_panels(90, 20):
            size = len(panel[0])
            if len(panel[1]) < 16:
                for low in range(size):
                    for high in range(size):
                        if low != high:
                            with self.subTest(panel=panel, low=low, high=high):
                                found = self.call(with_rule, panel, low, high)
                                self.assertEqual(found, (panel[0], (*panel[1], (low, high))))
                                self.assertIsNone(find_fault(found))

    def test_up_to_sixteen_rules(self):
        panel = (SPREAD, ())
        for k in range(16):
            panel = with_rule(panel, k % 8, (k + 3) % 8)
            self.assertEqual(len(panel[1]), k + 1)
        for low, high in ((0, 1), (7, 6), (0, 3)):
            before = (tuple(panel[0]), tuple(panel[1]))
            with self.assertRaises(Full):
                with_rule(panel, low, high)
            self.assertEqual(panel, before)

    def test_full_for_each_panel_with_sixteen_rules(self):
        for name, panel in edge_panels().items():
            if len(panel[0]) > 1:
                with self.subTest(name=name):
                    if len(panel[1]) == 16:
                        with self.assertRaises(Full):
                            with_rule(panel, 1, 0)
                    else:
                        self.assertEqual(with_rule(panel, 1, 0)[1][-1], (1, 0))

    def test_a_rule_that_is_there_already(self):
        self.assertEqual(with_rule(P, 0, 1), (P[0], ((0, 1), (1, 2), (0, 1))))
        self.assertEqual(with_rule(P, 1, 0), (P[0], ((0, 1), (1, 2), (1, 0))))


class TestWithoutRule(CallCase):
    def test_each_index(self):
        for panel in many_panels(91, 20):
            for rule in range(len(panel[1])):
                others = [other for at, other in enumerate(panel[1]) if at != rule]
                with self.subTest(panel=panel, rule=rule):
                    found = self.call(without_rule, panel, rule)
                    self.assertEqual(found, (panel[0], tuple(others)))
                    self.assertIsNone(find_fault(found))

    def test_removing_the_last_rule_undoes_adding_it(self):
        for panel in drawn_panels(92, 40, rules=15):
            if len(panel[0]) > 1:
                self.assertEqual(without_rule(with_rule(panel, 1, 0), len(panel[1])), panel)

    def test_only_one_of_repeated_rules_is_removed(self):
        panel = (((1, 1), (0, 1)), ((0, 1), (1, 0), (0, 1)))
        self.assertEqual(without_rule(panel, 0)[1], ((1, 0), (0, 1)))
        self.assertEqual(without_rule(panel, 1)[1], ((0, 1), (0, 1)))
        self.assertEqual(without_rule(panel, 2)[1], ((0, 1), (1, 0)))


class TestAmountRange(CallCase):
    def can_have(self, panel, rule, amount):
        """Return whether some supporting amounts have this amount, a number, at the rule."""
        values = numbers(best_rating(panel))
        low, high = panel[1][rule]
        if amount < 0 or amount > 0 and values[low] != values[high]:
            return False
        needs = needs_of(panel, values)
        needs[low] -= amount
        needs[high] += amount
        return can_carry(needs, tight_rules(without_rule(panel, rule), values))

    def check_range(self, panel, rule):
        found = self.call(amount_range, panel, rule)
        self.assertIs(type(found), tuple)
        least, greatest = found
        self.check_fraction(least)
        low, high = panel[1][rule]
        rating = best_rating(panel)
        # All corners of the supporting amounts are multiples of one over this denominator.
        step = Fraction(1, 2 * rating[low][1])
        self.assertTrue(self.can_have(panel, rule, number(least)))
        self.assertFalse(self.can_have(panel, rule, number(least) - step))
        if leads_to(panel[1], high, low):
            self.assertIsNone(greatest)
            for more in (step, MARK, 10 ** 40):
                self.assertTrue(self.can_have(panel, rule, number(least) + more))
        else:
            self.check_fraction(greatest)
            self.assertTrue(self.can_have(panel, rule, number(greatest)))
            self.assertFalse(self.can_have(panel, rule, number(greatest) + step))
        if rating[low] != rating[high]:
            self.assertEqual(found, (ZERO, ZERO))

    def test_no_supporting_amounts_have_less_or_more(self):
        for panel in many_panels(93, 40):
            for rule in range(len(panel[1])):
                with self.subTest(panel=panel, rule=rule):
                    self.check_range(panel, rule)

    def test_the_corners_of_the_supporting_amounts(self):
        panels = drawn_panels(94, 120, items=5, rules=6) + drawn_panels(95, 60, items=4, rules=5, mark=MARK)
        for panel in panels:
            corners = corner_amounts(panel, numbers(best_rating(panel)))
            for rule, (low, high) in enumerate(panel[1]):
                least = min(corner[rule] for corner in corners)
                greatest = max(corner[rule] for corner in corners)
                free = leads_to(panel[1], high, low)
                with self.subTest(panel=panel, rule=rule):
                    expected = (told(least), None if free else told(greatest))
                    self.assertEqual(amount_range(panel, rule), expected)

    def test_the_amounts_of_find_amounts_lie_in_the_range(self):
        for panel, rating in known_panels(96, 100):
            for rule, amount in enumerate(find_amounts(panel, rating)):
                least, greatest = amount_range(panel, rule)
                with self.subTest(panel=panel, rule=rule):
                    self.assertLessEqual(number(least), number(amount))
                    if greatest is not None:
                        self.assertLessEqual(number(amount), number(greatest))

    def test_no_greatest_amount_exactly_in_a_cycle(self):
        for panel in many_panels(97, 60):
            for rule, (low, high) in enumerate(panel[1]):
                with self.subTest(panel=panel, rule=rule):
                    free = leads_to(panel[1], high, low)
                    self.assertEqual(amount_range(panel, rule)[1] is None, free)

    def test_a_rule_of_a_cycle_whose_least_amount_is_not_0(self):
        panel = (((4, 1), (0, 1)), ((0, 1), (1, 0)))
        self.assertEqual(amount_range(panel, 0), ((2, 1), None))
        self.assertEqual(amount_range(panel, 1), (ZERO, None))
        panel = (((6, 1), (0, 1), (0, 1)), ((0, 1), (1, 2), (2, 0)))
        self.assertEqual([amount_range(panel, k) for k in range(3)], [((4, 1), None), ((2, 1), None), (ZERO, None)])

    def test_a_repeated_rule_shares_its_amount(self):
        panel = (((4, 1), (0, 1)), ((0, 1), (0, 1)))
        self.assertEqual([amount_range(panel, k) for k in range(2)], [(ZERO, (2, 1))] * 2)
        panel = (((4, 1), (0, 1)), ((0, 1), (0, 1), (1, 0)))
        self.assertEqual([amount_range(panel, k) for k in range(3)], [(ZERO, None)] * 3)

    def test_two_ways_from_one_item_to_another(self):
        panel = (((9, 1), (0, 1), (0, 1)), ((0, 1), (1, 2), (0, 2)))
        self.assertEqual(amount_range(panel, 0), ((3, 1), (6, 1)))
        self.assertEqual(amount_range(panel, 1), (ZERO, (3, 1)))
        self.assertEqual(amount_range(panel, 2), (ZERO, (3, 1)))

    def test_different_ratings(self):
        self.assertEqual(amount_range(P, 1), (ZERO, ZERO))
        panel = edge_panels()["a rising chain"]
        self.assertEqual([amount_range(panel, k) for k in range(7)], [(ZERO, ZERO)] * 7)

    def test_equal_ratings_without_an_amount(self):
        panel = (((2, 1), (2, 5)), ((0, 1),))
        self.assertEqual(amount_range(panel, 0), (ZERO, ZERO))
        panel = edge_panels()["equal averages in a chain"]
        self.assertEqual([amount_range(panel, k) for k in range(3)], [((1, 1),) * 2, (ZERO, ZERO), ((2, 1),) * 2])

    def test_a_level_whose_value_is_no_integer(self):
        panel = (((1, 2), (0, 1)), ((0, 1),))
        self.assertEqual(amount_range(panel, 0), ((2, 3), (2, 3)))

    def test_limits(self):
        panel = (((MARK, WEIGHT), (-MARK, WEIGHT)), ((0, 1),))
        self.assertEqual(amount_range(panel, 0), ((MARK * WEIGHT, 1),) * 2)


class TestIdleRules(CallCase):
    def test_each_rule_removed(self):
        for panel in many_panels(98, 80):
            best = best_rating(panel)
            found = self.call(idle_rules, panel)
            self.check_group(found)
            for rule in range(len(panel[1])):
                others = (panel[0], panel[1][:rule] + panel[1][rule + 1:])
                with self.subTest(panel=panel, rule=rule):
                    self.assertEqual(rule in found, best_rating(others) == best)

    def test_the_rules_whose_least_amount_is_0(self):
        for panel in many_panels(99, 80):
            with self.subTest(panel=panel):
                least = [amount_range(panel, rule)[0] for rule in range(len(panel[1]))]
                self.assertEqual(idle_rules(panel), tuple(at for at, part in enumerate(least) if part == ZERO))

    def test_some_supporting_amounts_are_0_at_exactly_these_rules(self):
        for panel in drawn_panels(100, 120, items=5, rules=6):
            rating = best_rating(panel)
            corners = corner_amounts(panel, numbers(rating))
            with self.subTest(panel=panel):
                idle = {rule for corner in corners for rule, amount in enumerate(corner) if amount == 0}
                self.assertEqual(set(idle_rules(panel)), idle)

    def test_known_results(self):
        self.assertEqual(idle_rules((((5, 3),), ())), ())
        self.assertEqual(idle_rules((FALLING, tuple((k, k + 1) for k in range(7)))), ())
        self.assertEqual(idle_rules((((4, 1), (0, 1)), ((0, 1), (0, 1)))), (0, 1))
        self.assertEqual(idle_rules((((4, 1), (0, 1)), ((0, 1), (1, 0)))), (1,))
        self.assertEqual(idle_rules((((2, 1), (2, 5)), ((0, 1), (1, 0)))), (0, 1))
        self.assertEqual(idle_rules(edge_panels()["one rule sixteen times"]), tuple(range(16)))

    def test_amounts_of_the_panel_without_an_idle_rule_support_the_rating_with_it(self):
        for panel in drawn_panels(101, 60):
            rating = best_rating(panel)
            for rule in idle_rules(panel):
                value = find_amounts(without_rule(panel, rule), rating)
                with self.subTest(panel=panel, rule=rule):
                    self.assertIs(supports_rating(panel, rating, (*value[:rule], ZERO, *value[rule:])), True)


class TestInterface(CallCase):
    def test_each_function_is_defined_in_this_module(self):
        self.check_module(rules, ("with_rule", "without_rule", "amount_range", "idle_rules"))

    def test_no_call_takes_long(self):
        panels = list(edge_panels().values()) + drawn_panels(102, 30, mark=MARK, weight=WEIGHT)
        panels += [(SPREAD, GRID), (((1, 1),) * 8, GRID), (((1, 1),) * 8, ((0, 1),) * 16)]
        for panel in panels:
            with self.subTest(panel=panel):
                self.check_time(idle_rules, panel)
                for rule in range(len(panel[1])):
                    self.check_time(amount_range, panel, rule)
                    self.check_time(without_rule, panel, rule)


if __name__ == "__main__":
    unittest.main()
