"""Points 42 to 47: panels and ratings that are made from others."""

import itertools
import random
import unittest
from fractions import Fraction

from cases import CallCase
from oracles import cost, number, numbers, told
from poolmarks import changes
from poolmarks.changes import clip_rating, combine_panels, relabel_panel, reverse_panel, reverse_rating
from poolmarks.changes import scale_panel, shift_panel, weigh_panel, without_item
from poolmarks.errors import Full, LastItem, OutOfRange
from poolmarks.panels import find_fault
from poolmarks.ratings import best_rating, obeys_rules
from samples import CHAIN, GRID, MARK, P, ROUND, SPREAD, WEIGHT
from samples import drawn_fractions, drawn_panels, edge_panels, edge_thresholds, known_panels, many_panels


class PanelCase(CallCase):
    def changed(self, function, *arguments):
        """Return the result of a change, which is a panel."""
        found = self.call(function, *arguments)
        self.assertIsNone(find_fault(found))
        return found

    def check_raises(self, error, function, *arguments):
        for time in range(2):
            with self.assertRaises(error) as caught:
                function(*arguments)
            self.assertIs(type(caught.exception), error)


class TestReversing(PanelCase):
    def test_panels(self):
        for panel in many_panels(220, 20):
            with self.subTest(panel=panel):
                items, rules = self.changed(reverse_panel, panel)
                self.assertEqual(list(items), [(-mark, weight) for mark, weight in panel[0]])
                self.assertEqual(list(rules), [(high, low) for low, high in panel[1]])
                self.assertEqual(reverse_panel((items, rules)), panel)

    def test_ratings(self):
        ratings = [tuple(drawn_fractions(k, size)) for k, size in enumerate((1, 2, 5, 8))]
        ratings += [((0, 1),), ((1, 2), (-1, 2), (0, 1)), tuple(edge_thresholds()[:8])]
        for rating in ratings:
            found = self.call(reverse_rating, rating)
            self.check_fractions(found, len(rating))
            self.assertEqual(numbers(found), [-value for value in numbers(rating)])
            self.assertEqual(reverse_rating(found), rating)

    def test_the_best_rating_is_reversed(self):
        for panel in many_panels(221, 20):
            with self.subTest(panel=panel):
                self.assertEqual(best_rating(reverse_panel(panel)), reverse_rating(best_rating(panel)))


class TestShifting(PanelCase):
    def test_shifting_and_back(self):
        for panel in drawn_panels(222, 40) + [P, (SPREAD, GRID)]:
            for amount in (0, 1, -7, 10 ** 6, 9 - MARK, MARK - 9):
                with self.subTest(panel=panel, amount=amount):
                    items, rules = self.changed(shift_panel, panel, amount)
                    self.assertEqual(list(items), [(mark + amount, weight) for mark, weight in panel[0]])
                    self.assertEqual(rules, panel[1])
                    self.assertEqual(shift_panel((items, rules), -amount), panel)

    def test_the_best_rating_is_shifted(self):
        for panel in drawn_panels(223, 40):
            with self.subTest(panel=panel):
                shifted = numbers(best_rating(shift_panel(panel, 31)))
                self.assertEqual(shifted, [value + 31 for value in numbers(best_rating(panel))])

    def test_limits(self):
        self.assertEqual(shift_panel(P, MARK - 4)[0], ((MARK, 1), (MARK - 4, 1), (MARK - 1, 2)))
        self.check_raises(OutOfRange, shift_panel, P, MARK - 3)
        self.assertEqual(shift_panel(P, -MARK)[0], ((4 - MARK, 1), (-MARK, 1), (3 - MARK, 2)))
        self.check_raises(OutOfRange, shift_panel, P, -MARK - 1)
        for amount in (10 ** 29, -(10 ** 30 - 1), 10 ** 30 - 1):
            self.check_raises(OutOfRange, shift_panel, P, amount)

    def test_all_the_way(self):
        low, high = (((-MARK, 5),), ()), (((MARK, 5),), ())
        self.assertEqual(shift_panel(low, 2 * MARK), high)
        self.assertEqual(shift_panel(high, -2 * MARK), low)
        self.check_raises(OutOfRange, shift_panel, low, 2 * MARK + 1)
        self.check_raises(OutOfRange, shift_panel, low, -1)
        self.check_raises(OutOfRange, shift_panel, high, 1)

    def test_one_item_out_of_range_is_enough(self):
        for at in range(8):
            items = tuple((MARK if k == at else 0, 1) for k in range(8))
            self.check_raises(OutOfRange, shift_panel, (items, ()), 1)
            self.assertEqual(shift_panel((items, ()), -1)[0][at], (MARK - 1, 1))


class TestScaling(PanelCase):
    def test_marks(self):
        for panel in drawn_panels(224, 40) + [P, (SPREAD, ROUND)]:
            for factor in (1, 2, 10 ** 7, MARK // 9):
                with self.subTest(panel=panel, factor=factor):
                    items, rules = self.changed(scale_panel, panel, factor)
                    self.assertEqual(list(items), [(mark * factor, weight) for mark, weight in panel[0]])
                    self.assertEqual(rules, panel[1])
                    scaled = [value * factor for value in numbers(best_rating(panel))]
                    self.assertEqual(numbers(best_rating((items, rules))), scaled)

    def test_limits_of_marks(self):
        for sign in (1, -1):
            panel = (((sign * 5, 1), (0, 2)), ())
            self.assertEqual(scale_panel(panel, MARK // 5)[0], ((sign * MARK, 1), (0, 2)))
            self.check_raises(OutOfRange, scale_panel, panel, MARK // 5 + 1)
            self.check_raises(OutOfRange, scale_panel, panel, 10 ** 30 - 1)
            self.check_raises(OutOfRange, scale_panel, (((sign * MARK, 1),), ()), 2)
            self.assertEqual(scale_panel((((sign * MARK, 1),), ()), 1), (((sign * MARK, 1),), ()))

    def test_marks_of_0_stay(self):
        panel = (((0, 1), (0, 7)), ((0, 1),))
        self.assertEqual(scale_panel(panel, 10 ** 30 - 1), panel)

    def test_weights(self):
        for panel in drawn_panels(225, 40) + [P, (SPREAD, ROUND)]:
            for factor in (1, 2, 10 ** 5, WEIGHT // 7):
                with self.subTest(panel=panel, factor=factor):
                    items, rules = self.changed(weigh_panel, panel, factor)
                    self.assertEqual(list(items), [(mark, weight * factor) for mark, weight in panel[0]])
                    self.assertEqual(rules, panel[1])
                    self.assertEqual(best_rating((items, rules)), best_rating(panel))

    def test_limits_of_weights(self):
        panel = (((MARK, 5), (-MARK, 1)), ())
        self.assertEqual(weigh_panel(panel, WEIGHT // 5)[0], ((MARK, WEIGHT), (-MARK, WEIGHT // 5)))
        self.check_raises(OutOfRange, weigh_panel, panel, WEIGHT // 5 + 1)
        self.check_raises(OutOfRange, weigh_panel, panel, 10 ** 30 - 1)
        self.check_raises(OutOfRange, weigh_panel, (((0, WEIGHT),), ()), 2)
        self.assertEqual(weigh_panel((((0, 1),), ()), WEIGHT), (((0, WEIGHT),), ()))
        self.check_raises(OutOfRange, weigh_panel, (((0, 1),), ()), WEIGHT + 1)


class TestCombining(PanelCase):
    def test_items_and_rules_of_both(self):
        panels = drawn_panels(226, 30, items=4, rules=8) + [P, (((5, 3),), ())]
        for one, other in zip(panels, panels[7:] + panels[:7]):
            with self.subTest(one=one, other=other):
                items, rules = self.changed(combine_panels, one, other)
                self.assertEqual(items, (*one[0], *other[0]))
                size = len(one[0])
                self.assertEqual(rules, (*one[1], *((low + size, high + size) for low, high in other[1])))
                self.assertEqual(best_rating((items, rules)), best_rating(one) + best_rating(other))

    def test_limits_of_items(self):
        for size in range(1, 9):
            one = (((1, 1),) * size, ())
            for more in range(1, 9):
                other = (((2, 1),) * more, ())
                with self.subTest(size=size, more=more):
                    if size + more <= 8:
                        self.assertEqual(combine_panels(one, other)[0], one[0] + other[0])
                    else:
                        self.check_raises(Full, combine_panels, one, other)

    def test_limits_of_rules(self):
        for many in range(17):
            one = (((1, 1), (2, 1)), ((0, 1),) * many)
            for more in range(17):
                other = (((3, 1), (4, 1)), ((1, 0),) * more)
                with self.subTest(many=many, more=more):
                    if many + more <= 16:
                        self.assertEqual(combine_panels(one, other)[1], ((0, 1),) * many + ((3, 2),) * more)
                    else:
                        self.check_raises(Full, combine_panels, one, other)

    def test_too_many_of_both(self):
        self.check_raises(Full, combine_panels, (SPREAD, GRID), (SPREAD, GRID))


class TestRelabelling(PanelCase):
    def check_order(self, panel, order):
        items, rules = self.changed(relabel_panel, panel, order)
        self.assertEqual(items, tuple(panel[0][item] for item in order))
        # An index of the new panel names the old item that stands there.
        self.assertEqual(tuple((order[low], order[high]) for low, high in rules), panel[1])
        back = tuple(order.index(item) for item in range(len(order)))
        self.assertEqual(relabel_panel((items, rules), back), panel)
        rating = best_rating(panel)
        self.assertEqual(best_rating((items, rules)), tuple(rating[item] for item in order))

    def test_each_order_of_few_items(self):
        for panel in drawn_panels(227, 12, items=4, rules=6) + [P, (((5, 3),), ())]:
            for order in itertools.permutations(range(len(panel[0]))):
                with self.subTest(panel=panel, order=order):
                    self.check_order(panel, order)

    def test_orders_of_many_items(self):
        source = random.Random(228)
        for panel in many_panels(229, 10):
            size = len(panel[0])
            for order in (range(size), reversed(range(size)), source.sample(range(size), size)):
                order = tuple(order)
                with self.subTest(panel=panel, order=order):
                    self.check_order(panel, order)

    def test_the_order_as_it_is(self):
        self.assertEqual(relabel_panel((SPREAD, GRID), tuple(range(8))), (SPREAD, GRID))


class TestWithoutItem(PanelCase):
    def test_each_item(self):
        for panel in many_panels(230, 30):
            if len(panel[0]) == 1:
                continue
            for item in range(len(panel[0])):
                with self.subTest(panel=panel, item=item):
                    items, rules = self.changed(without_item, panel, item)
                    self.assertEqual(items, panel[0][:item] + panel[0][item + 1:])
                    left = [rule for rule in panel[1] if item not in rule]
                    expected = [tuple(end - 1 if end > item else end for end in rule) for rule in left]
                    self.assertEqual(list(rules), expected)

    def test_no_other_rules_take_the_place_of_its_rules(self):
        self.assertEqual(without_item((SPREAD, CHAIN), 3)[1], ((0, 1), (1, 2), (3, 4), (4, 5), (5, 6)))

    def test_two_items(self):
        panel = (((1, 1), (2, 2)), ((0, 1), (1, 0)))
        self.assertEqual(without_item(panel, 0), (((2, 2),), ()))
        self.assertEqual(without_item(panel, 1), (((1, 1),), ()))

    def test_the_only_item(self):
        self.check_raises(LastItem, without_item, (((5, 3),), ()), 0)
        self.check_raises(LastItem, without_item, (((-MARK, WEIGHT),), ()), 0)


class TestClipping(CallCase):
    def check_clip(self, rating, low, high):
        found = self.call(clip_rating, rating, low, high)
        self.check_fractions(found, len(rating))
        least, most = number(low), number(high)
        self.assertEqual(found, tuple(told(min(max(value, least), most)) for value in numbers(rating)))
        return found

    def bounds_for(self, rating):
        found = [*rating, (0, 1), (5, 2), (-7, 3), (MARK, 1), (10 ** 400 - 1, 3), (1 - 10 ** 400, 7)]
        found = sorted({told(number(value)) for value in found}, key=number)
        return [(low, high) for at, low in enumerate(found) for high in found[at:]]

    def test_ratings_of_all_sizes(self):
        ratings = [tuple(drawn_fractions(k, size)) for k, size in enumerate((1, 2, 5, 8))]
        ratings += [((2, 1), (2, 1), (3, 1)), ((0, 1),)]
        for rating in ratings:
            for low, high in self.bounds_for(rating):
                with self.subTest(rating=rating, low=low, high=high):
                    self.check_clip(rating, low, high)

    def test_equal_bounds(self):
        for rating in [tuple(drawn_fractions(k, 8)) for k in range(4)]:
            for bound in edge_thresholds():
                self.assertEqual(self.check_clip(rating, bound, bound), (bound,) * 8)

    def test_bounds_that_change_nothing(self):
        for panel, rating in known_panels(231, 30):
            values = numbers(rating)
            self.assertEqual(self.check_clip(rating, told(min(values)), told(max(values))), rating)
            self.assertEqual(self.check_clip(rating, (-MARK, 1), (MARK, 1)), rating)

    def test_ratings_within_the_bounds_cost_no_less(self):
        for panel in drawn_panels(232, 40, items=3, rules=4, mark=3, weight=3):
            for low, high in ((-1, 1), (0, 0), (0, 2), (-3, -2), (2, 3)):
                clipped = clip_rating(best_rating(panel), (low, 1), (high, 1))
                self.assertTrue(obeys_rules(panel, clipped))
                least = cost(panel, numbers(clipped))
                steps = [Fraction(step, 2) for step in range(2 * low, 2 * high + 1)]
                for values in itertools.product(steps, repeat=len(panel[0])):
                    if all(values[one] <= values[other] for one, other in panel[1]):
                        self.assertGreaterEqual(cost(panel, values), least)


class TestInterface(CallCase):
    def test_each_function_is_defined_in_this_module(self):
        self.check_module(changes, (
            "reverse_panel", "reverse_rating", "shift_panel", "scale_panel", "weigh_panel",
            "combine_panels", "relabel_panel", "without_item", "clip_rating",
        ))

    def test_no_call_takes_long(self):
        for name, panel in edge_panels().items():
            size = len(panel[0])
            with self.subTest(name=name):
                self.check_time(reverse_panel, panel)
                self.check_time(relabel_panel, panel, tuple(reversed(range(size))))
                self.check_time(scale_panel, panel, 1)
                if size > 1:
                    self.check_time(without_item, panel, size - 1)
        rating = tuple(edge_thresholds()[:8])
        self.check_time(reverse_rating, rating)
        self.check_time(clip_rating, rating, (0, 1), (10 ** 400 - 1, 10 ** 399 + 6))


if __name__ == "__main__":
    unittest.main()
