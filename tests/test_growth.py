"""Points 31 and 32: other marks, and the mark from which a rating is reached."""

import unittest
from fractions import Fraction

from cases import CallCase
from oracles import all_groups, average, leads_to, number, numbers, rating_by_averages, told
from poolmarks import growth
from poolmarks.growth import mark_to_reach, with_mark
from poolmarks.ratings import best_rating
from samples import FALLING, GRID, MARK, P, SPREAD, WEIGHT
from samples import drawn_fractions, drawn_panels, edge_panels, edge_thresholds, many_panels, near_fractions

# No mark that is asked for here is anywhere near.
FAR = Fraction(10 ** 460)
NEAR = Fraction(1, 10 ** 420)


def rating_with(panel, item, mark, rate=best_rating):
    """Return the best rating, as numbers, of a panel in which the item has a mark that is any number."""
    items, rules = panel
    factor = mark.denominator
    scaled = [(other * factor, weight) for other, weight in items]
    scaled[item] = (mark.numerator, items[item][1])
    rating = rate((tuple(scaled), rules))
    return [value / factor for value in (numbers(rating) if rate is best_rating else rating)]


def values_for(panel):
    """Return values that are marks, averages and ratings, values next to these, and values far away."""
    found = [(mark, 1) for mark, weight in panel[0]]
    found += [told(average(panel, group)) for group in all_groups(panel)[1::13]]
    found += list(best_rating(panel))
    found = sorted(set(found))
    for value in found[::4]:
        found += near_fractions(value)
    return found + edge_thresholds() + drawn_fractions(len(panel[1]), 4)


def places(panel):
    size = len(panel[0])
    return [(item, watched) for item in range(size) for watched in range(size)]


class TestWithMark(CallCase):
    def test_each_item(self):
        for name, panel in edge_panels().items():
            for item in range(len(panel[0])):
                for mark, weight in ((0, 1), (MARK, WEIGHT), (-MARK, 1), panel[0][item]):
                    with self.subTest(name=name, item=item, mark=mark):
                        items, rules = self.call(with_mark, panel, item, mark, weight)
                        self.assertIs(type(items), tuple)
                        expected = [(mark, weight) if at == item else old for at, old in enumerate(panel[0])]
                        self.assertEqual(list(items), expected)
                        self.assertEqual(rules, panel[1])

    def test_known_results(self):
        self.assertEqual(with_mark(P, 2, -7, 9), (((4, 1), (0, 1), (-7, 9)), ((0, 1), (1, 2))))
        self.assertEqual(with_mark((((5, 3),), ()), 0, 1, 2), (((1, 2),), ()))


class TestMarkToReach(CallCase):
    def check_answer(self, panel, item, watched, value, rate=best_rating):
        found = self.call(mark_to_reach, panel, item, watched, value)
        self.assertIs(type(found), tuple)
        goal = number(value)
        if found[0] == "from":
            self.assertEqual(len(found), 2)
            self.check_fraction(found[1])
            mark = number(found[1])
            self.assertEqual(told(mark), found[1])
            # Ratings never jump, so the value is met exactly.
            self.assertEqual(rating_with(panel, item, mark, rate)[watched], goal)
            for less in (NEAR, 1, FAR):
                self.assertLess(rating_with(panel, item, mark - less, rate)[watched], goal)
            self.assertGreaterEqual(rating_with(panel, item, mark + FAR, rate)[watched], goal)
        else:
            self.assertIn(found, (("always",), ("never",)))
            for mark in (-FAR, goal, Fraction(panel[0][item][0]), FAR):
                reached = rating_with(panel, item, mark, rate)[watched] >= goal
                self.assertEqual(reached, found == ("always",))
        return found[0]

    def check_panel(self, panel, places_step, values_step, rate=best_rating):
        seen = set()
        for at, (item, watched) in enumerate(places(panel)[::places_step]):
            for value in values_for(panel)[at % values_step::values_step]:
                with self.subTest(panel=panel, item=item, watched=watched, value=value):
                    seen.add(self.check_answer(panel, item, watched, value, rate))
        return seen

    def test_the_best_rating_with_the_mark_and_with_less(self):
        seen = set()
        for panel in drawn_panels(200, 40, items=4, rules=5) + drawn_panels(201, 10, items=3, rules=3, mark=1):
            seen |= self.check_panel(panel, 2, 7)
        self.assertEqual(seen, {"always", "never", "from"})

    def test_large_panels(self):
        for panel in drawn_panels(202, 8) + drawn_panels(203, 4, mark=MARK, weight=WEIGHT):
            self.check_panel(panel, 11, 17)

    def test_edges(self):
        for panel in edge_panels().values():
            self.check_panel(panel, 9, 23)

    def test_averages_that_limit_the_rating(self):
        for panel in drawn_panels(204, 12, items=3, rules=4):
            self.check_panel(panel, 1, 13, rating_by_averages)

    def test_item_and_watched_equal(self):
        for name, panel in edge_panels().items():
            for item in range(len(panel[0])):
                for value in values_for(panel)[::29]:
                    with self.subTest(name=name, item=item, value=value):
                        self.assertEqual(self.check_answer(panel, item, item, value), "from")

    def test_not_connected(self):
        panel = (((4, 1), (0, 1), (3, 2), (7, 1)), ((0, 1), (2, 3)))
        for item, watched in ((0, 2), (0, 3), (1, 2), (3, 0), (2, 1)):
            rating = number(best_rating(panel)[watched])
            for value in values_for(panel):
                with self.subTest(item=item, watched=watched, value=value):
                    expected = ("always",) if rating >= number(value) else ("never",)
                    self.assertEqual(mark_to_reach(panel, item, watched, value), expected)

    def test_item_below_watched(self):
        # A lower item can lift watched as far as one likes, but it never lowers it below its own rating.
        panel = (((4, 1), (0, 1)), ((0, 1),))
        self.assertEqual(mark_to_reach(panel, 0, 1, (0, 1)), ("always",))
        self.assertEqual(mark_to_reach(panel, 0, 1, (-1, 3)), ("always",))
        self.assertEqual(mark_to_reach(panel, 0, 1, (1, 3)), ("from", (2, 3)))
        self.assertEqual(mark_to_reach(panel, 0, 1, (5, 1)), ("from", (10, 1)))

    def test_item_above_watched(self):
        panel = (((4, 1), (0, 1)), ((0, 1),))
        self.assertEqual(mark_to_reach(panel, 1, 0, (4, 1)), ("from", (4, 1)))
        self.assertEqual(mark_to_reach(panel, 1, 0, (41, 10)), ("never",))
        self.assertEqual(mark_to_reach(panel, 1, 0, (1, 1)), ("from", (-2, 1)))
        self.assertEqual(mark_to_reach(panel, 1, 0, (-10 ** 400 + 1, 1)), ("from", (-2 * 10 ** 400 - 2, 1)))

    def test_a_round(self):
        panel = (((4, 1), (0, 3)), ((0, 1), (1, 0)))
        for watched in (0, 1):
            self.assertEqual(mark_to_reach(panel, 0, watched, (7, 2)), ("from", (14, 1)))
            self.assertEqual(mark_to_reach(panel, 1, watched, (0, 1)), ("from", (-4, 3)))

    def test_one_item(self):
        for value in edge_thresholds() + drawn_fractions(205, 10):
            self.assertEqual(mark_to_reach((((5, 3),), ()), 0, 0, value), ("from", value))

    def test_no_rule(self):
        panel = (SPREAD, ())
        for item, watched in places(panel):
            for value in ((7, 1), (7, 2), (-9, 1), (-19, 2)):
                expected = ("always",) if SPREAD[watched][0] >= number(value) else ("never",)
                expected = ("from", value) if item == watched else expected
                self.assertEqual(mark_to_reach(panel, item, watched, value), expected)

    def test_the_mark_may_exceed_the_limit_and_have_more_digits_than_the_value(self):
        panel = (((0, 1), (-MARK, WEIGHT)), ((0, 1),))
        self.assertEqual(mark_to_reach(panel, 0, 1, (0, 1)), ("from", (MARK * WEIGHT, 1)))
        answer = mark_to_reach((((0, 7), (1, 3)), ((0, 1),)), 0, 1, (10 ** 399 + 9, 10 ** 399))
        self.assertEqual(answer, ("from", told(1 + Fraction(90, 7 * 10 ** 399))))

    def test_the_present_mark_of_the_item_has_no_effect(self):
        for panel in drawn_panels(206, 30, items=5, rules=6):
            for at, (item, watched) in enumerate(places(panel)):
                value = values_for(panel)[at]
                expected = mark_to_reach(panel, item, watched, value)
                for mark in (-MARK, 0, MARK):
                    other = with_mark(panel, item, mark, panel[0][item][1])
                    with self.subTest(panel=panel, item=item, watched=watched, value=value):
                        self.assertEqual(mark_to_reach(other, item, watched, value), expected)

    def test_the_present_rating_is_reached_from_the_present_mark_or_less(self):
        for panel in many_panels(207, 15):
            rating = best_rating(panel)
            for item, watched in places(panel)[::3]:
                answer = mark_to_reach(panel, item, watched, rating[watched])
                with self.subTest(panel=panel, item=item, watched=watched):
                    self.assertNotEqual(answer, ("never",))
                    if answer != ("always",):
                        self.assertLessEqual(number(answer[1]), panel[0][item][0])

    def test_greater_values_need_greater_marks(self):
        ranks = {"always": 0, "from": 1, "never": 2}
        for panel in drawn_panels(208, 15, items=5, rules=6):
            values = sorted(set(values_for(panel)), key=number)
            for item, watched in places(panel)[::4]:
                answers = [mark_to_reach(panel, item, watched, value) for value in values]
                keys = [(ranks[answer[0]], *numbers(answer[1:])) for answer in answers]
                with self.subTest(panel=panel, item=item, watched=watched):
                    self.assertEqual(keys, sorted(keys))

    def test_always_and_never_only_where_the_item_is_not_bound_from_both_sides(self):
        for panel in drawn_panels(209, 60, items=5, rules=6):
            for item, watched in places(panel):
                low = mark_to_reach(panel, item, watched, (-10 ** 40, 1))
                high = mark_to_reach(panel, item, watched, (10 ** 40, 1))
                with self.subTest(panel=panel, item=item, watched=watched):
                    self.assertEqual(low[0], "from" if leads_to(panel[1], watched, item) else "always")
                    self.assertEqual(high[0], "from" if leads_to(panel[1], item, watched) else "never")


class TestGuarantees(CallCase):
    def test_no_rating_falls_if_a_mark_grows(self):
        for panel in drawn_panels(210, 60):
            for item, (mark, weight) in enumerate(panel[0]):
                ratings = [numbers(best_rating(with_mark(panel, item, mark + more, weight))) for more in range(-9, 10, 3)]
                with self.subTest(panel=panel, item=item):
                    for one, other in zip(ratings, ratings[1:]):
                        self.assertTrue(all(a <= b for a, b in zip(one, other)))

    def test_no_rating_changes_by_more_than_the_mark(self):
        for panel in drawn_panels(211, 60):
            before = numbers(best_rating(panel))
            for item, (mark, weight) in enumerate(panel[0]):
                for change in (-5, 1, 8):
                    after = numbers(best_rating(with_mark(panel, item, mark + change, weight)))
                    with self.subTest(panel=panel, item=item, change=change):
                        self.assertTrue(all(abs(a - b) <= abs(change) for a, b in zip(before, after)))


class TestInterface(CallCase):
    def test_each_function_is_defined_in_this_module(self):
        self.check_module(growth, ("with_mark", "mark_to_reach"))

    def test_no_call_takes_long(self):
        panels = list(edge_panels().values()) + drawn_panels(212, 10, mark=MARK, weight=WEIGHT)
        panels += [(SPREAD, GRID), (FALLING, ())]
        for panel in panels:
            for value in edge_thresholds():
                item, watched = 0, len(panel[0]) - 1
                with self.subTest(panel=panel, value=value):
                    self.check_time(mark_to_reach, panel, item, watched, value)
                    self.check_time(mark_to_reach, panel, watched, item, value)
                    self.check_time(with_mark, panel, item, MARK, WEIGHT)


if __name__ == "__main__":
    unittest.main()
