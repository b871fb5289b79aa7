"""Points 18 to 20: amounts, the evidence for a rating."""

import random
import unittest

from cases import CallCase
from oracles import are_fractions, corner_amounts, is_best, number, numbers, obeys, rating_by_amounts, supports, told
from poolmarks import amounts
from poolmarks.amounts import find_amounts, rating_of_amounts, supports_rating
from poolmarks.ratings import best_rating
from samples import GRID, MARK, P, SPREAD, WEIGHT
from samples import any_values, drawn_fractions, drawn_panels, edge_panels, known_panels, large_fractions
from samples import lowest_terms, many_panels, small_fractions

BEST = ((2, 1), (2, 1), (3, 1))
AMOUNTS = ((2, 1), (0, 1))
WITH_ROUNDS = (
    "opposite rules", "opposite rules, sixteen", "a round of all items", "two rounds", "a round with a tail",
    "sixteen rules with rounds", "limits, a round", "all marks at the lower limit",
)


def drawn_amounts(seed, panel, many):
    """Return amounts of the panel: small, large, negative, positive and 0."""
    source = random.Random(seed)
    pool = small_fractions() + large_fractions()[::9] + drawn_fractions(seed, 10)
    found = [((0, 1),) * len(panel[1])]
    for k in range(many):
        some = [(0, 1), *source.sample(pool, 4)]
        found.append(tuple(source.choice(some) for rule in panel[1]))
    return found


def long_amounts(seed, many):
    """Return positive and negative fractions with 400 digits in each part."""
    source = random.Random(seed)
    low, high = 10 ** 399, 10 ** 400
    return tuple(
        lowest_terms(source.choice((-1, 1)) * source.randrange(low, high), source.randrange(low, high))
        for k in range(many)
    )


def replaced(value, at, part):
    return (*value[:at], part, *value[at + 1:])


class TestRatingOfAmounts(CallCase):
    def check_rating(self, panel, value):
        found = self.call(rating_of_amounts, panel, value)
        self.check_fractions(found, len(panel[0]))
        self.assertEqual(found, tuple(told(part) for part in rating_by_amounts(panel, numbers(value))))

    def test_drawn_amounts(self):
        for panel in many_panels(60, 25):
            for value in drawn_amounts(61, panel, 5):
                with self.subTest(panel=panel):
                    self.check_rating(panel, value)

    def test_amounts_of_0_leave_the_marks(self):
        for panel in many_panels(62, 20):
            with self.subTest(panel=panel):
                marks = tuple((mark, 1) for mark, weight in panel[0])
                self.assertEqual(rating_of_amounts(panel, ((0, 1),) * len(panel[1])), marks)

    def test_one_amount_moves_two_items(self):
        panel = (((4, 1), (0, 3), (3, 2)), ((0, 1), (2, 1), (1, 2)))
        zero = (0, 1)
        self.assertEqual(rating_of_amounts(panel, ((1, 1), zero, zero)), ((3, 1), (1, 3), (3, 1)))
        self.assertEqual(rating_of_amounts(panel, ((-1, 1), zero, zero)), ((5, 1), (-1, 3), (3, 1)))
        self.assertEqual(rating_of_amounts(panel, (zero, (1, 2), zero)), ((4, 1), (1, 6), (11, 4)))
        self.assertEqual(rating_of_amounts(panel, (zero, zero, (1, 2))), ((4, 1), (-1, 6), (13, 4)))

    def test_amounts_around_a_cycle_and_at_opposite_rules_move_nothing(self):
        for fraction in ((1, 2), (-7, 3), (10 ** 399, 10 ** 399 - 1)):
            panel = edge_panels()["a round of all items"]
            self.assertEqual(rating_of_amounts(panel, (fraction,) * 8), tuple((mark, 1) for mark, weight in SPREAD))
            panel = edge_panels()["opposite rules"]
            self.assertEqual(rating_of_amounts(panel, (fraction,) * 2), ((4, 1), (1, 1)))

    def test_repeated_rules_add_their_amounts(self):
        panel = (((0, 2), (0, 1)), ((0, 1),) * 3)
        self.assertEqual(rating_of_amounts(panel, ((1, 2), (1, 3), (-1, 6))), ((-1, 3), (2, 3)))

    def test_no_rule(self):
        self.assertEqual(rating_of_amounts((((5, 3),), ()), ()), ((5, 1),))

    def test_parts_of_400_digits(self):
        for rules in (((0, 1),), ((0, 1),) * 16, GRID, tuple((k, 0) for k in range(1, 8)) * 2):
            panel = (SPREAD, rules)
            value = long_amounts(63, len(rules))
            with self.subTest(rules=rules):
                self.check_time(rating_of_amounts, panel, value)
                self.check_rating(panel, value)


class TestSupportsRating(CallCase):
    def check_value(self, panel, rating, value):
        expected = are_fractions(value, len(panel[1])) and supports(panel, numbers(rating), numbers(value))
        self.assertIs(self.call(supports_rating, panel, rating, value), expected)
        return expected

    def known(self, panel):
        """Return the best rating and some amounts that support it, found without the package's search."""
        rating = best_rating(panel)
        found = corner_amounts(panel, numbers(rating))
        return rating, [tuple(told(part) for part in corner) for corner in found]

    def small_panels(self, seed, many):
        return drawn_panels(seed, many, items=5, rules=5) + drawn_panels(seed + 1, many, items=3, rules=5, mark=MARK)

    def test_amounts_that_support(self):
        for panel in self.small_panels(64, 60):
            rating, found = self.known(panel)
            self.assertNotEqual(found, [])
            for value in found:
                with self.subTest(panel=panel, value=value):
                    self.assertIs(self.call(supports_rating, panel, rating, value), True)

    def test_amounts_between_such_that_support(self):
        for panel in self.small_panels(66, 60):
            rating, found = self.known(panel)
            for one in found[:3]:
                for other in found[:3]:
                    value = tuple(told((2 * number(a) + number(b)) / 3) for a, b in zip(one, other))
                    with self.subTest(panel=panel, value=value):
                        self.assertIs(supports_rating(panel, rating, value), True)

    def test_amounts_with_a_part_around_a_cycle(self):
        for name in ("a round of all items", "limits, a round", "opposite rules"):
            panel = edge_panels()[name]
            rating = best_rating(panel)
            value = find_amounts(panel, rating)
            for extra in ((1, 1), (1, 10 ** 399), (10 ** 399, 1)):
                more = tuple(told(number(part) + number(extra)) for part in value)
                less = tuple(told(number(part) - number(extra)) for part in value)
                with self.subTest(name=name, extra=extra):
                    self.assertIs(supports_rating(panel, rating, more), True)
                    self.check_value(panel, rating, less)

    def test_one_part_changed(self):
        for panel in many_panels(68, 20):
            rating = best_rating(panel)
            value = find_amounts(panel, rating)
            for at in range(len(value)):
                for change in ((1, 1), (-1, 1), (1, 3), (-1, 10 ** 399), (MARK, 1)):
                    wrong = replaced(value, at, told(number(value[at]) + number(change)))
                    with self.subTest(panel=panel, at=at, change=change):
                        self.assertIs(self.call(supports_rating, panel, rating, wrong), False)

    def test_one_rating_changed(self):
        for panel in many_panels(69, 20):
            rating = best_rating(panel)
            value = find_amounts(panel, rating)
            for item in range(len(rating)):
                for change in ((1, 1), (-1, 3), (1, 10 ** 380)):
                    wrong = replaced(rating, item, told(number(rating[item]) + number(change)))
                    with self.subTest(panel=panel, item=item, change=change):
                        self.assertIs(supports_rating(panel, wrong, value), False)

    def test_a_negative_amount(self):
        # Both the rating and its outflows fit; only the sign of an amount is wrong.
        panel = (((4, 1), (0, 1)), ((0, 1), (1, 0)))
        rating = ((2, 1), (2, 1))
        self.assertIs(supports_rating(panel, rating, ((2, 1), (0, 1))), True)
        self.assertIs(supports_rating(panel, rating, ((3, 1), (1, 1))), True)
        self.assertIs(supports_rating(panel, rating, ((1, 1), (-1, 1))), False)
        self.assertIs(supports_rating(panel, rating, ((0, 1), (-2, 1))), False)
        self.assertIs(supports_rating((((0, 1), (4, 1)), ((0, 1),)), ((2, 1), (2, 1)), ((-2, 1),)), False)

    def test_a_positive_amount_between_different_ratings(self):
        # The rating obeys the rule and equals the rating of the amounts.
        panel = (((1, 1), (3, 1)), ((0, 1),))
        self.assertIs(supports_rating(panel, ((0, 1), (4, 1)), ((1, 1),)), False)
        self.assertIs(supports_rating(panel, ((1, 1), (3, 1)), ((0, 1),)), True)
        for items, rules in drawn_panels(70, 80, rules=6):
            value = tuple((k % 3, 1) for k in range(len(rules)))
            rating = rating_of_amounts((items, rules), value)
            with self.subTest(items=items, rules=rules):
                self.check_value((items, rules), rating, value)

    def test_a_rating_that_does_not_obey(self):
        panel = (((4, 1), (0, 1)), ((0, 1),))
        self.assertIs(supports_rating(panel, ((4, 1), (0, 1)), ((0, 1),)), False)
        self.assertIs(supports_rating(panel, ((3, 1), (1, 1)), ((1, 1),)), False)
        for panel in many_panels(71, 20):
            for value in drawn_amounts(72, panel, 3):
                rating = rating_of_amounts(panel, value)
                with self.subTest(panel=panel):
                    self.check_value(panel, rating, value)
                    if not obeys(panel, numbers(rating)):
                        self.assertIs(supports_rating(panel, rating, value), False)

    def test_amounts_of_another_panel(self):
        for panel in drawn_panels(73, 15, rules=5):
            for other in drawn_panels(74, 15, rules=5):
                value = find_amounts(other, best_rating(other))
                with self.subTest(panel=panel, other=other):
                    self.check_value(panel, best_rating(panel), value)

    def test_too_few_and_too_many_parts(self):
        zero = (0, 1)
        for name, panel in edge_panels().items():
            rating = best_rating(panel)
            value = find_amounts(panel, rating)
            with self.subTest(name=name):
                self.assertIs(supports_rating(panel, rating, value), True)
                self.assertIs(supports_rating(panel, rating, (*value, zero)), False)
                self.assertIs(supports_rating(panel, rating, (zero, *value)), False)
                for many in range(len(value)):
                    self.assertIs(supports_rating(panel, rating, value[:many]), False)

    def test_parts_that_are_no_fractions(self):
        for part in (
            (4, 2), (2, 2), (0, 2), (0, 0), (2, 0), (-2, -1), (2, -1), (0, -1), (2,), (2, 1, 1), (),
            (True, 1), (2, True), (False, 1), (0, True), [2, 1], [0, 1], 0, 2, "2", None, True, False, {},
        ):
            for value in ((part, (0, 1)), ((2, 1), part)):
                with self.subTest(value=value):
                    self.assertIs(self.call(supports_rating, P, BEST, value), False)

    def test_values_of_all_kinds(self):
        panels = ((P, BEST), ((((5, 3),), ()), ((5, 1),)), ((((2, 1), (2, 1)), ((0, 1),)), ((2, 1), (2, 1))))
        for panel, rating in panels:
            for part in any_values():
                for value in (part, (part,), (part, (0, 1)), ((2, 1), part), [part] * 2):
                    with self.subTest(panel=panel, value=value):
                        self.check_value(panel, rating, value)

    def test_lists_in_the_place_of_tuples(self):
        self.assertIs(supports_rating(P, BEST, AMOUNTS), True)
        self.assertIs(supports_rating(P, BEST, list(AMOUNTS)), False)
        self.assertIs(supports_rating(P, BEST, tuple(list(part) for part in AMOUNTS)), False)
        self.assertIs(supports_rating((((5, 3),), ()), ((5, 1),), []), False)
        self.assertIs(supports_rating((((5, 3),), ()), ((5, 1),), ()), True)

    def test_whatever_amounts_support_a_rating_it_is_the_best_one(self):
        for panel in drawn_panels(75, 150, items=4, rules=4, mark=2, weight=2):
            for value in [((k, 1),) * len(panel[1]) for k in range(3)] + drawn_amounts(76, panel, 3):
                rating = rating_of_amounts(panel, value)
                if self.check_value(panel, rating, value):
                    self.assertEqual(rating, best_rating(panel))


class TestFindAmounts(CallCase):
    def check_found(self, panel, rating):
        found = self.call(find_amounts, panel, rating)
        self.check_fractions(found, len(panel[1]))
        self.assertTrue(are_fractions(found, len(panel[1])))
        self.assertTrue(supports(panel, numbers(rating), numbers(found)))
        self.assertIs(supports_rating(panel, rating, found), True)

    def test_the_best_rating(self):
        for panel in many_panels(77, 150):
            with self.subTest(panel=panel):
                self.check_found(panel, best_rating(panel))

    def test_panels_that_are_made_from_a_known_rating(self):
        for panel, rating in known_panels(78, 200):
            with self.subTest(panel=panel):
                self.check_found(panel, rating)

    def test_panels_with_cycles(self):
        for name in WITH_ROUNDS:
            panel = edge_panels()[name]
            with self.subTest(name=name):
                self.check_found(panel, best_rating(panel))

    def test_no_rule(self):
        self.assertEqual(find_amounts((((5, 3),), ()), ((5, 1),)), ())
        self.assertIsNone(find_amounts((((5, 3),), ()), ((5, 2),)))

    def test_none_for_ratings_next_to_the_best_one(self):
        for panel in many_panels(79, 30):
            rating = best_rating(panel)
            for item in range(len(rating)):
                for change in ((1, 1), (-1, 1), (1, 7), (1, 10 ** 380), (-1, 10 ** 380)):
                    wrong = replaced(rating, item, told(number(rating[item]) + number(change)))
                    with self.subTest(panel=panel, wrong=wrong):
                        self.assertIsNone(self.call(find_amounts, panel, wrong))

    def test_none_for_every_other_rating(self):
        for panel in drawn_panels(80, 100, items=3, rules=4, mark=2, weight=2):
            size = len(panel[0])
            for code in range(5 ** size):
                rating = tuple(lowest_terms(code // 5 ** item % 5 - 2, 2) for item in range(size))
                with self.subTest(panel=panel, rating=rating):
                    found = find_amounts(panel, rating)
                    self.assertEqual(found is not None, is_best(panel, numbers(rating)))
                    self.assertEqual(found is not None, rating == best_rating(panel))

    def test_none_for_ratings_that_do_not_obey(self):
        self.assertIsNone(find_amounts(P, ((4, 1), (0, 1), (3, 1))))
        for panel in many_panels(81, 30):
            marks = tuple((mark, 1) for mark, weight in panel[0])
            with self.subTest(panel=panel):
                self.assertEqual(find_amounts(panel, marks) is None, not obeys(panel, numbers(marks)))

    def test_none_for_equal_ratings_that_are_too_low_or_too_high(self):
        for panel in many_panels(82, 15):
            for fraction in ((-MARK - 1, 1), (MARK + 1, 1), (10 ** 399, 7), (-(10 ** 400 - 1), 10 ** 399)):
                with self.subTest(panel=panel, fraction=fraction):
                    self.assertIsNone(find_amounts(panel, (fraction,) * len(panel[0])))


class TestInterface(CallCase):
    def test_each_function_is_defined_in_this_module(self):
        self.check_module(amounts, ("rating_of_amounts", "supports_rating", "find_amounts"))

    def test_no_call_takes_long(self):
        panels = list(edge_panels().values()) + drawn_panels(83, 30, mark=MARK, weight=WEIGHT)
        for panel in panels:
            rating = best_rating(panel)
            wrong = long_amounts(84, len(panel[0]))
            with self.subTest(panel=panel):
                self.check_time(find_amounts, panel, rating)
                self.check_time(find_amounts, panel, wrong)
                self.check_time(supports_rating, panel, rating, find_amounts(panel, rating))
                self.check_time(supports_rating, panel, wrong, long_amounts(85, len(panel[1])))
                self.check_time(rating_of_amounts, panel, long_amounts(85, len(panel[1])))


if __name__ == "__main__":
    unittest.main()
