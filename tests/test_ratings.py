"""Points 14 to 17: ratings, their costs, the best rating and its levels."""

import random
import unittest

from cases import CallCase
from oracles import are_fractions, cost, is_best, number, numbers, obeys, rating_by_averages, told
from poolmarks import ratings
from poolmarks.panels import average_of
from poolmarks.ratings import best_rating, cost_of, level_groups, obeys_rules
from samples import MARK, P, WEIGHT
from samples import any_values, drawn_fractions, drawn_panels, edge_panels, known_panels, many_panels
from samples import large_fractions, lowest_terms, small_fractions

BEST = ((2, 1), (2, 1), (3, 1))


def drawn_ratings(seed, panel, many):
    """Return ratings of the panel with parts of many sizes, equal ones among them."""
    source = random.Random(seed)
    pool = small_fractions()[::5] + large_fractions()[::20] + drawn_fractions(seed, 5)
    found = []
    for k in range(many):
        some = source.sample(pool, source.randint(1, 4))
        found.append(tuple(source.choice(some) for item in panel[0]))
    return found


def raised(panel, values):
    """Return the least numbers that obey the rules and are nowhere below the values."""
    values = list(values)
    # In the worst order of the rules a pass raises one more item of a chain.
    for step in panel[0]:
        for low, high in panel[1]:
            values[high] = max(values[high], values[low])
    return values


def obeying_ratings(seed, panel, many):
    """Return lists of numbers that obey the rules, near the best rating and far from it."""
    source = random.Random(seed)
    best = numbers(best_rating(panel))
    found = []
    for k in range(many):
        step = source.choice((1, 3, MARK)) * number((1, source.choice((1, 7, 10 ** 6))))
        start = source.choice((best, best, [number((mark, 1)) for mark, weight in panel[0]]))
        drawn = raised(panel, [value + step * source.randint(-2, 2) for value in start])
        found.append(drawn)
        share = number((1, source.choice((2, 3, 10 ** 9))))
        found.append([one + share * (other - one) for one, other in zip(best, drawn)])
    return found


class TestObeysRules(CallCase):
    def check_value(self, panel, value):
        expected = are_fractions(value, len(panel[0])) and obeys(panel, numbers(value))
        self.assertIs(self.call(obeys_rules, panel, value), expected)

    def test_drawn_ratings(self):
        for panel in many_panels(20, 20):
            for rating in drawn_ratings(21, panel, 12):
                with self.subTest(panel=panel, rating=rating):
                    self.check_value(panel, rating)

    def test_ratings_of_small_integers(self):
        for panel in drawn_panels(22, 40, items=3, rules=3):
            for first in range(3):
                for second in range(3):
                    for third in range(3):
                        rating = ((first, 1), (second, 2) if second % 2 else (second // 2, 1), (third, 1))
                        rating = rating[:len(panel[0])]
                        with self.subTest(panel=panel, rating=rating):
                            self.check_value(panel, rating)

    def test_ratings_that_obey(self):
        for panel in many_panels(23, 20):
            for values in obeying_ratings(24, panel, 5):
                with self.subTest(panel=panel, values=values):
                    self.assertIs(obeys_rules(panel, tuple(told(value) for value in values)), True)

    def test_each_rule_counts(self):
        for name, panel in edge_panels().items():
            for at, (low, high) in enumerate(panel[1]):
                rating = [(0, 1)] * len(panel[0])
                rating[low] = (1, 10 ** 399)
                with self.subTest(name=name, rule=at):
                    self.assertIs(obeys_rules(panel, tuple(rating)), False)

    def test_equal_ratings_obey_all_rules(self):
        for panel in many_panels(25, 20):
            for fraction in ((0, 1), (-7, 3), (10 ** 399, 10 ** 399 - 1)):
                with self.subTest(panel=panel, fraction=fraction):
                    self.assertIs(obeys_rules(panel, (fraction,) * len(panel[0])), True)

    def test_too_few_and_too_many_parts(self):
        for panel in edge_panels().values():
            for many in range(20):
                with self.subTest(panel=panel, many=many):
                    self.assertIs(obeys_rules(panel, ((1, 2),) * many), many == len(panel[0]))

    def test_parts_that_are_no_fractions(self):
        for at in range(3):
            for part in (
                (2, 2), (4, 2), (0, 2), (-2, 2), (2, 0), (0, 0), (2, -1), (-2, -1), (2,), (2, 1, 1), (),
                (True, 1), (2, True), (False, 1), (0, True), [2, 1], 2, "2", "2/1", None, True, {}, ((2, 1),),
            ):
                value = (*BEST[:at], part, *BEST[at + 1:])
                with self.subTest(value=value):
                    self.assertIs(self.call(obeys_rules, P, value), False)

    def test_values_of_all_kinds(self):
        for panel in (P, (((5, 3),), ()), (((5, 3), (4, 1)), ((0, 1),))):
            for part in any_values():
                for value in (part, (part,), (part, part), ((2, 1), part), (part, (2, 1), (3, 1)), [part] * 3):
                    with self.subTest(panel=panel, value=value):
                        self.check_value(panel, value)

    def test_lists_in_the_place_of_tuples(self):
        self.assertIs(obeys_rules(P, BEST), True)
        self.assertIs(obeys_rules(P, list(BEST)), False)
        self.assertIs(obeys_rules(P, tuple(list(part) for part in BEST)), False)
        self.assertIs(obeys_rules(P, level_groups(P)), False)


class TestCostOf(CallCase):
    def check_cost(self, panel, rating):
        found = self.call(cost_of, panel, rating)
        self.check_fraction(found)
        self.assertEqual(found, told(cost(panel, numbers(rating))))

    def test_drawn_ratings(self):
        for panel in many_panels(26, 10):
            for rating in drawn_ratings(27, panel, 4):
                with self.subTest(panel=panel):
                    self.check_cost(panel, rating)

    def test_ratings_that_do_not_obey(self):
        self.assertEqual(cost_of(P, ((4, 1), (0, 1), (3, 1))), (0, 1))
        self.assertEqual(cost_of(P, ((0, 1), (0, 1), (0, 1))), (34, 1))
        self.assertEqual(cost_of(P, ((9, 2), (-1, 3), (5, 2))), (31, 36))

    def test_the_marks_cost_nothing(self):
        for panel in many_panels(28, 20):
            with self.subTest(panel=panel):
                self.assertEqual(cost_of(panel, tuple((mark, 1) for mark, weight in panel[0])), (0, 1))

    def test_parts_of_400_digits(self):
        for panel in (P, edge_panels()["limits, a chain"], edge_panels()["odd limits, sixteen rules"]):
            source = random.Random(29)
            rating = tuple(
                lowest_terms(source.randrange(10 ** 399, 10 ** 400), source.randrange(10 ** 399, 10 ** 400))
                for item in panel[0]
            )
            self.check_cost(panel, rating)
            self.check_time(cost_of, panel, rating)


class TestBestRating(CallCase):
    def check_best(self, panel):
        found = self.call(best_rating, panel)
        self.check_fractions(found, len(panel[0]))
        self.assertTrue(are_fractions(found, len(panel[0])))
        self.assertIs(obeys_rules(panel, found), True)
        self.assertTrue(is_best(panel, numbers(found)))

    def test_amounts_exist_that_support_it(self):
        for panel in many_panels(30, 150):
            with self.subTest(panel=panel):
                self.check_best(panel)

    def test_averages_of_closed_groups_limit_it(self):
        for panel in drawn_panels(31, 60, items=5) + drawn_panels(32, 60, items=5, rules=5, mark=MARK, weight=WEIGHT):
            with self.subTest(panel=panel):
                self.assertEqual(numbers(best_rating(panel)), rating_by_averages(panel))

    def test_averages_of_closed_groups_limit_it_at_the_edges(self):
        for name, panel in edge_panels().items():
            if len(panel[1]) > 6 or len(panel[0]) < 6:
                with self.subTest(name=name):
                    self.assertEqual(numbers(best_rating(panel)), rating_by_averages(panel))

    def test_panels_that_are_made_from_a_known_rating(self):
        for panel, rating in known_panels(33, 400):
            with self.subTest(panel=panel):
                self.assertEqual(best_rating(panel), rating)

    def test_no_rating_that_obeys_costs_less(self):
        for panel in many_panels(34, 25):
            best = numbers(best_rating(panel))
            least = cost(panel, best)
            for values in obeying_ratings(35, panel, 8):
                with self.subTest(panel=panel, values=values):
                    self.assertTrue(obeys(panel, values))
                    self.assertTrue(values == best or cost(panel, values) > least)

    def test_marks_that_obey_are_the_best_rating(self):
        for panel in many_panels(36, 60):
            marks = tuple((mark, 1) for mark, weight in panel[0])
            with self.subTest(panel=panel):
                self.assertEqual(best_rating(panel) == marks, obeys_rules(panel, marks))

    def test_all_items_of_a_round_have_equal_ratings(self):
        for name in ("a round of all items", "limits, a round", "sixteen rules with rounds", "opposite rules"):
            panel = edge_panels()[name]
            everything = tuple(range(len(panel[0])))
            with self.subTest(name=name):
                self.assertEqual(best_rating(panel), (average_of(panel, everything),) * len(everything))

    def test_repeated_rules_change_nothing(self):
        for items, rules in drawn_panels(37, 60, rules=8):
            with self.subTest(items=items, rules=rules):
                self.assertEqual(best_rating((items, rules + rules)), best_rating((items, rules)))

    def test_known_results(self):
        best = {
            "one item": ((5, 1),),
            "two items, no rule": ((1, 1), (0, 1)),
            "two items, a rule that is obeyed": ((0, 1), (1, 1)),
            "two items, a rule that is not": ((1, 3), (1, 3)),
            "opposite rules": ((2, 1), (2, 1)),
            "equal marks": ((2, 1),) * 3,
            "equal averages that no rule connects": ((2, 1),) * 5,
            "equal averages in a chain": ((2, 1),) * 4,
            "all marks at the upper limit": ((MARK, 1),) * 8,
            "all marks at the lower limit": ((-MARK, 1),) * 8,
            "two items at the limits": (lowest_terms(MARK * (WEIGHT - 1), WEIGHT + 1),) * 2,
        }
        for name, rating in best.items():
            with self.subTest(name=name):
                self.assertEqual(best_rating(edge_panels()[name]), rating)


class TestChangesOfMarks(CallCase):
    def changed(self, source, panel, steps):
        items = tuple((mark + source.choice(steps), weight) for mark, weight in panel[0])
        return (items, panel[1])

    def test_no_rating_falls_if_no_mark_falls(self):
        source = random.Random(38)
        for panel in drawn_panels(39, 150) + drawn_panels(40, 50, mark=MARK // 2, weight=WEIGHT):
            other = self.changed(source, panel, (0, 0, 1, 2, 9))
            with self.subTest(panel=panel, other=other):
                pairs = list(zip(numbers(best_rating(panel)), numbers(best_rating(other))))
                self.assertTrue(all(before <= after for before, after in pairs))

    def test_no_rating_changes_by_more_than_the_marks(self):
        source = random.Random(41)
        for panel in drawn_panels(42, 150) + drawn_panels(43, 50, mark=MARK // 2, weight=WEIGHT):
            for most in (1, 5):
                other = self.changed(source, panel, range(-most, most + 1))
                with self.subTest(panel=panel, other=other):
                    pairs = list(zip(numbers(best_rating(panel)), numbers(best_rating(other))))
                    self.assertTrue(all(abs(before - after) <= most for before, after in pairs))

    def test_all_marks_by_the_same_amount(self):
        for items, rules in drawn_panels(44, 60):
            other = (tuple((mark + 7, weight) for mark, weight in items), rules)
            with self.subTest(items=items, rules=rules):
                moved = [value + 7 for value in numbers(best_rating((items, rules)))]
                self.assertEqual(numbers(best_rating(other)), moved)


class TestLevelGroups(CallCase):
    def expected_levels(self, panel):
        rating = best_rating(panel)
        return tuple(
            (told(value), tuple(item for item, other in enumerate(rating) if number(other) == value))
            for value in sorted(set(numbers(rating)))
        )

    def test_the_items_of_each_value_of_the_best_rating(self):
        for panel in many_panels(45, 100):
            with self.subTest(panel=panel):
                found = self.call(level_groups, panel)
                self.assertEqual(found, self.expected_levels(panel))
                self.assertIs(type(found), tuple)
                for level in found:
                    self.assertIs(type(level), tuple)
                    self.check_fraction(level[0])
                    self.check_group(level[1])

    def test_panels_that_are_made_from_a_known_rating(self):
        for panel, rating in known_panels(46, 150):
            with self.subTest(panel=panel):
                levels = {item: value for value, group in level_groups(panel) for item in group}
                self.assertEqual(levels, dict(enumerate(rating)))

    def test_each_level_keeps_its_weighted_sum(self):
        for panel in many_panels(47, 60):
            for value, group in level_groups(panel):
                with self.subTest(panel=panel, group=group):
                    self.assertEqual(average_of(panel, group), value)

    def test_items_with_equal_ratings_that_no_rule_connects_share_a_level(self):
        panel = edge_panels()["equal averages that no rule connects"]
        self.assertEqual(level_groups(panel), (((2, 1), (0, 1, 2, 3, 4)),))
        self.assertEqual(level_groups((((3, 1), (1, 2), (3, 9)), ())), (((1, 1), (1,)), ((3, 1), (0, 2))))

    def test_values_increase_as_numbers_and_not_as_tuples(self):
        panel = (((1, 1), (0, 2), (0, 1), (1, 1), (-3, 1), (-1, 1)), ((0, 1), (3, 2)))
        self.assertEqual(
            level_groups(panel),
            (((-3, 1), (4,)), ((-1, 1), (5,)), ((1, 3), (0, 1)), ((1, 2), (2, 3))),
        )


class TestInterface(CallCase):
    def test_each_function_is_defined_in_this_module(self):
        self.check_module(ratings, ("obeys_rules", "cost_of", "best_rating", "level_groups"))

    def test_no_call_takes_long(self):
        for name, panel in edge_panels().items():
            with self.subTest(name=name):
                self.check_time(best_rating, panel)
                self.check_time(level_groups, panel)
                self.check_time(cost_of, panel, best_rating(panel))
                for value in any_values():
                    self.check_time(obeys_rules, panel, value)


if __name__ == "__main__":
    unittest.main()
