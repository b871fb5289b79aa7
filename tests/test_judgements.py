"""Points 21 to 23: the force on a group, and judgements of ratings."""

import random
import unittest
from fractions import Fraction

from cases import CallCase
from oracles import all_groups, are_fractions, corner_amounts, drawn_groups, force, number, numbers, obeys, supports, told
from poolmarks import judgements
from poolmarks.amounts import find_amounts
from poolmarks.judgements import check_judgement, group_force, judge_rating
from poolmarks.ratings import best_rating, cost_of
from samples import GRID, MARK, P, ROUND, SPREAD, WEIGHT
from samples import any_values, drawn_panels, edge_panels, known_panels, lowest_terms, many_panels, obeying_ratings

BEST = ((2, 1), (2, 1), (3, 1))
THREES = ((3, 1),) * 3
SIDES = ("up", "down")


def long_rating(seed):
    """Return a rising rating of eight fractions with 400 digits in each part."""
    source = random.Random(seed)
    found = [lowest_terms(source.randrange(10 ** 399, 10 ** 400), source.randrange(10 ** 399, 10 ** 400)) for k in range(8)]
    return tuple(sorted(found, key=number))


class TestGroupForce(CallCase):
    def check_force(self, panel, rating, group, side):
        found = self.call(group_force, panel, rating, group, side)
        expected = force(panel, numbers(rating), group, side)
        if expected is None:
            self.assertIsNone(found)
        else:
            self.check_fraction(found)
            self.assertEqual(found, told(expected))
        return expected is None

    def check_panel(self, panel, seed, step):
        seen = {True: 0, False: 0}
        ratings = obeying_ratings(seed, panel, best_rating(panel))
        groups = all_groups(panel)[1:]
        for at, rating in enumerate(ratings):
            for group in groups[at % step::step]:
                for side in SIDES:
                    with self.subTest(panel=panel, rating=rating, group=group, side=side):
                        seen[self.check_force(panel, rating, group, side)] += 1
        return seen

    def test_groups_that_can_move_and_groups_that_cannot(self):
        total = {True: 0, False: 0}
        for seed, panel in enumerate(drawn_panels(300, 40, items=4, rules=5)):
            for key, many in self.check_panel(panel, seed, 2).items():
                total[key] += many
        self.assertGreater(min(total.values()), 500)

    def test_edges(self):
        for seed, panel in enumerate(edge_panels().values()):
            self.check_panel(panel, seed, 29)

    def test_known_results(self):
        self.assertEqual(group_force(P, THREES, (0, 1), "down"), (2, 1))
        self.assertEqual(group_force(P, THREES, (0, 1, 2), "down"), (2, 1))
        self.assertEqual(group_force(P, THREES, (0, 1, 2), "up"), (-2, 1))
        self.assertEqual(group_force(P, THREES, (2,), "up"), (0, 1))
        self.assertEqual(group_force(P, THREES, (0,), "down"), (-1, 1))
        self.assertIsNone(group_force(P, THREES, (1,), "down"))
        self.assertIsNone(group_force(P, THREES, (0,), "up"))
        self.assertIsNone(group_force(P, THREES, (0, 2), "up"))
        self.assertIsNone(group_force(P, THREES, (0, 2), "down"))

    def test_a_rule_between_different_ratings_does_not_keep_a_group(self):
        self.assertEqual(group_force(P, ((0, 1), (1, 2), (3, 1)), (0,), "up"), (4, 1))
        self.assertEqual(group_force(P, ((0, 1), (1, 2), (3, 1)), (1,), "down"), (1, 2))
        self.assertIsNone(group_force(P, ((1, 2), (1, 2), (3, 1)), (0,), "up"))

    def test_opposite_rules_and_rounds(self):
        panel = (((4, 1), (1, 2)), ((0, 1), (1, 0)))
        for side in SIDES:
            self.assertIsNone(group_force(panel, ((1, 1), (1, 1)), (0,), side))
            self.assertIsNone(group_force(panel, ((1, 1), (1, 1)), (1,), side))
        self.assertEqual(group_force(panel, ((1, 1), (1, 1)), (0, 1), "up"), (3, 1))
        for group in all_groups((SPREAD, ROUND))[1:]:
            stuck = group_force((SPREAD, ROUND), ((1, 2),) * 8, group, "up") is None
            self.assertEqual(stuck, len(group) < 8)

    def test_equal_ratings_that_no_rule_connects(self):
        panel = (((4, 1), (0, 1), (7, 2)), ((0, 1),))
        self.assertEqual(group_force(panel, ((2, 1),) * 3, (2,), "up"), (10, 1))
        self.assertEqual(group_force(panel, ((2, 1),) * 3, (2,), "down"), (-10, 1))

    def test_both_sides_are_opposite(self):
        for panel in drawn_panels(301, 30):
            everything = tuple(range(len(panel[0])))
            for rating in obeying_ratings(302, panel, best_rating(panel)):
                top, bottom = group_force(panel, rating, everything, "up")
                self.assertEqual(group_force(panel, rating, everything, "down"), (-top, bottom))

    def test_fractions_of_400_digits(self):
        for seed in range(4):
            for group in ((0,), (3, 5), tuple(range(8))):
                for side in SIDES:
                    self.check_force((SPREAD, GRID), long_rating(seed), group, side)

    def test_limits(self):
        panel = (((MARK, WEIGHT),) * 8, ())
        everything = tuple(range(8))
        self.assertEqual(group_force(panel, ((-MARK, 1),) * 8, everything, "up"), (16 * MARK * WEIGHT, 1))
        self.assertEqual(group_force(panel, ((-MARK, 1),) * 8, everything, "down"), (-16 * MARK * WEIGHT, 1))


class TestJudgeRating(CallCase):
    def check_judged(self, panel, rating):
        """Check the judgement of a rating that obeys the rules; return whether it is the best one."""
        values = numbers(rating)
        self.assertTrue(obeys(panel, values))
        found = self.call(judge_rating, panel, rating)
        self.assertIs(type(found), tuple)
        self.assertIs(check_judgement(panel, rating, found), True)
        if rating == best_rating(panel):
            self.assertEqual((len(found), found[0]), (2, "best"))
            self.check_fractions(found[1], len(panel[1]))
            self.assertTrue(supports(panel, values, numbers(found[1])))
            return True
        self.assertEqual((len(found), found[0]), (3, "drawn"))
        group, side = found[1:]
        self.check_group(group)
        self.assertIn(side, SIDES)
        self.assertIn(group, all_groups(panel)[1:])
        self.assertGreater(force(panel, values, group, side), 0)
        return False

    def test_the_best_rating(self):
        for panel, rating in known_panels(303, 150):
            with self.subTest(panel=panel):
                self.assertTrue(self.check_judged(panel, rating))

    def test_other_ratings(self):
        others = 0
        for seed, panel in enumerate(many_panels(304, 25)):
            for rating in obeying_ratings(seed, panel, best_rating(panel)):
                with self.subTest(panel=panel, rating=rating):
                    others += not self.check_judged(panel, rating)
        self.assertGreater(others, 1500)

    def test_a_small_move_lowers_the_cost(self):
        for seed, panel in enumerate(drawn_panels(305, 40)):
            for rating in obeying_ratings(seed, panel, best_rating(panel))[::3]:
                judged = judge_rating(panel, rating)
                if judged[0] == "best":
                    continue
                before = number(cost_of(panel, rating))
                step = Fraction(1 if judged[2] == "up" else -1, 10 ** 700)
                moved = [value + step * (item in judged[1]) for item, value in enumerate(numbers(rating))]
                with self.subTest(panel=panel, rating=rating):
                    self.assertTrue(obeys(panel, moved))
                    self.assertLess(number(cost_of(panel, tuple(told(value) for value in moved))), before)

    def test_known_results(self):
        self.assertEqual(judge_rating(P, BEST), ("best", ((2, 1), (0, 1))))
        self.assertEqual(judge_rating((((5, 3),), ()), ((5, 1),)), ("best", ()))
        self.assertEqual(judge_rating((((5, 3),), ()), ((4, 1),)), ("drawn", (0,), "up"))
        self.assertEqual(judge_rating((((5, 3),), ()), ((6, 1),)), ("drawn", (0,), "down"))

    def test_fractions_of_400_digits(self):
        for seed in range(4):
            for panel in ((SPREAD, GRID), edge_panels()["limits, sixteen rules"]):
                self.assertFalse(self.check_judged(panel, long_rating(seed)))


class TestCheckJudgement(CallCase):
    def check_value(self, panel, rating, value, expected):
        found = self.call(check_judgement, panel, rating, value)
        self.assertIs(found, expected)

    def test_each_group_and_side(self):
        seen = {True: 0, False: 0}
        for seed, panel in enumerate(drawn_panels(306, 30, items=4, rules=5) + [P]):
            for rating in obeying_ratings(seed, panel, best_rating(panel))[::2]:
                drawn = drawn_groups(panel, numbers(rating))
                # Guarantee (a): either the rating is the best one, or some group is drawn.
                self.assertEqual(drawn == [], rating == best_rating(panel))
                for group in all_groups(panel):
                    for side in SIDES:
                        expected = (group, side) in drawn
                        seen[expected] += 1
                        with self.subTest(panel=panel, rating=rating, group=group, side=side):
                            self.check_value(panel, rating, ("drawn", group, side), expected)
        self.assertGreater(min(seen.values()), 500)

    def test_other_amounts_than_judge_rating_returns(self):
        seen = 0
        for panel in drawn_panels(307, 150, items=5, rules=6):
            rating = best_rating(panel)
            judged = judge_rating(panel, rating)[1]
            for corner in corner_amounts(panel, numbers(rating)):
                amounts = tuple(told(value) for value in corner)
                halfway = tuple(told((number(one) + other) / 2) for one, other in zip(judged, corner))
                seen += amounts != judged
                with self.subTest(panel=panel, amounts=amounts):
                    self.check_value(panel, rating, ("best", amounts), True)
                    self.check_value(panel, rating, ("best", halfway), True)
        self.assertGreater(seen, 20)

    def test_amounts_around_a_cycle(self):
        panel = (((4, 1), (0, 1)), ((0, 1), (1, 0)))
        rating = ((2, 1), (2, 1))
        for more in (0, 1, 10 ** 29):
            self.check_value(panel, rating, ("best", ((2 + more, 1), (more, 1))), True)
            self.check_value(panel, rating, ("best", ((2 + more, 1), (more + 1, 1))), False)

    def test_each_part_of_the_amounts_changed(self):
        for panel in drawn_panels(308, 30) + [(SPREAD, GRID)]:
            rating = best_rating(panel)
            amounts = find_amounts(panel, rating)
            for at, (top, bottom) in enumerate(amounts):
                for part in ((top + bottom, bottom), (top - bottom, bottom), (2 * top, 2 * bottom), (top, -bottom),
                             (-top - 1, bottom), [top, bottom], (top, True), (False, bottom), None, top, "0", ()):
                    value = ("best", (*amounts[:at], part, *amounts[at + 1:]))
                    numeric = are_fractions(value[1], len(amounts))
                    expected = numeric and supports(panel, numbers(rating), numbers(value[1]))
                    with self.subTest(panel=panel, at=at, part=part):
                        self.check_value(panel, rating, value, expected)
            for other in (amounts[1:], (*amounts, (0, 1)), list(amounts), None, {}):
                if other != amounts:
                    self.check_value(panel, rating, ("best", other), False)

    def test_wrong_forms(self):
        right = ("drawn", (0, 1, 2), "down")
        self.check_value(P, THREES, right, True)
        self.check_value(P, BEST, ("best", ((2, 1), (0, 1))), True)
        wrong = [
            ("drawn", (0, 1, 2), "up"), ("drawn", (0, 1, 2)), ("drawn", "down", (0, 1, 2)), ("drawn",), (), right[1:],
            (*right, None), list(right), ("drawn", [0, 1, 2], "down"), ("drawn", (2, 1, 0), "down"), ("drawn", (), "down"),
            ("drawn", (0, 1, 1, 2), "down"), ("drawn", (0, 1, 3), "down"), ("drawn", (-1, 0, 1), "down"),
            ("drawn", (False, 1, 2), "down"), ("drawn", (0, True, 2), "down"), ("drawn", (0, 1, "2"), "down"),
            ("drawn", (0, 1, 2), "Down"), ("drawn", (0, 1, 2), ""), ("drawn", (0, 1, 2), None), ("drawn", (0, 1, 2), True),
            ("drawn", (0, 1, 2), ["down"]), ("drawn", (0, 1, 2), ("down",)), ("drawn", (0, 1, 2), {}), ("drawn", None, "down"),
            ("drawn", 0, "down"), ("drawn", {0: 1}, "down"), ("drawn", (1,), "down"), ("drawn", (0,), "down"),
            ("best", (0, 1, 2), "down"), ("Drawn", (0, 1, 2), "down"), (None, (0, 1, 2), "down"), (True, (0, 1, 2), "down"),
            ("best", ((2, 1), (0, 1))), ("best", ((2, 1), (0, 1)), "up"), ("drawn", ((2, 1), (0, 1))), ("best",),
            ("best", None), ("best", ()), "drawn", "best", "down",
        ]
        for value in wrong:
            with self.subTest(value=value):
                self.check_value(P, THREES, value, False)
        for value in wrong:
            if value != ("best", ((2, 1), (0, 1))):
                with self.subTest(value=value):
                    self.check_value(P, BEST, value, False)

    def test_values_of_all_kinds(self):
        for value in any_values():
            for rating in (BEST, THREES):
                with self.subTest(value=value):
                    self.check_value(P, rating, value, False)
                    self.check_value(P, rating, ("best", value), False)
                    self.check_value(P, rating, (value, (0, 1, 2), "down"), False)
                    self.check_value(P, rating, ("drawn", (0, 1, 2), value), False)
                    self.check_value(P, rating, (value, ((2, 1), (0, 1))), False)
                    self.check_value(P, rating, ("drawn", value, value), False)
            expected = (value, "down") in drawn_groups(P, numbers(THREES))
            self.check_value(P, THREES, ("drawn", value, "down"), expected)

    def test_a_rating_without_rules(self):
        panel = (((4, 1), (1, 1)), ())
        self.check_value(panel, ((4, 1), (1, 1)), ("best", ()), True)
        self.check_value(panel, ((4, 1), (2, 1)), ("best", ()), False)
        self.check_value(panel, ((4, 1), (2, 1)), ("drawn", (1,), "down"), True)
        self.check_value(panel, ((4, 1), (2, 1)), ("drawn", (0, 1), "down"), True)
        self.check_value(panel, ((4, 1), (2, 1)), ("drawn", (0,), "down"), False)


class TestInterface(CallCase):
    def test_each_function_is_defined_in_this_module(self):
        self.check_module(judgements, ("group_force", "judge_rating", "check_judgement"))

    def test_no_call_takes_long(self):
        everything = tuple(range(8))
        for name, panel in edge_panels().items():
            ratings = obeying_ratings(309, panel, best_rating(panel))
            if len(panel[0]) == 8 and all(low < high for low, high in panel[1]):
                ratings += [long_rating(1), long_rating(2)]
            for rating in ratings:
                with self.subTest(name=name, rating=rating):
                    self.check_time(judge_rating, panel, rating)
                    self.check_time(check_judgement, panel, rating, judge_rating(panel, rating))
                    self.check_time(group_force, panel, rating, everything[:len(panel[0])], "up")


if __name__ == "__main__":
    unittest.main()
