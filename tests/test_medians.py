"""Points 33 to 36: whole ratings with the least sum of absolute differences."""

import random
import unittest

from cases import CallCase
from oracles import median_ratings, obeys, spread, whole_ratings
from poolmarks import medians
from poolmarks.changes import reverse_panel, shift_panel
from poolmarks.medians import highest_median, is_median, least_spread, lowest_median, spread_of
from samples import CHAIN, FALLING, GRID, MARK, P, RISING, SPREAD, WEIGHT
from samples import any_values, drawn_panels, edge_panels, many_panels


def small_panels(seed, many):
    """Return panels with few items and with marks that are near each other."""
    found = drawn_panels(seed, many, items=4, rules=5, mark=3, weight=3)
    found += drawn_panels(seed + 1, many, items=4, rules=4, mark=2, weight=1)
    return found + [P, (((5, 3),), ()), (((2, 1), (2, 5), (2, 3)), ((0, 1), (1, 2))), (((1, 1), (0, 1)), ((0, 1),))]


def marks_of(panel):
    return sorted({mark for mark, weight in panel[0]})


def between(panel):
    """Return all integers from the least mark to the greatest one, and one more at each side."""
    marks = marks_of(panel)
    return range(marks[0] - 1, marks[-1] + 2)


class WholeCase(CallCase):
    def check_whole(self, value, size):
        self.assertIs(type(value), tuple)
        self.assertEqual([type(part) for part in value], [int] * size)


class TestSpreadOf(CallCase):
    def test_drawn_ratings(self):
        source = random.Random(340)
        for panel in many_panels(341, 20):
            for most in (5, MARK, 10 ** 30 - 1):
                whole = tuple(source.randint(-most, most) for item in panel[0])
                with self.subTest(panel=panel, whole=whole):
                    found = self.call(spread_of, panel, whole)
                    self.assertIs(type(found), int)
                    self.assertEqual(found, spread(panel, whole))

    def test_known_results(self):
        self.assertEqual(spread_of(P, (4, 0, 3)), 0)
        self.assertEqual(spread_of(P, (0, 0, 3)), 4)
        self.assertEqual(spread_of(P, (3, 3, 3)), 4)
        self.assertEqual(spread_of(P, (5, 1, 4)), 4)
        self.assertEqual(spread_of((((-MARK, WEIGHT),), ()), (MARK,)), 2 * MARK * WEIGHT)

    def test_ratings_that_do_not_obey_the_rules(self):
        self.assertEqual(spread_of(P, (9, -9, 0)), 5 + 9 + 6)

    def test_30_digits(self):
        self.assertEqual(spread_of(P, (10 ** 30 - 1, 1 - 10 ** 30, 3)), 2 * 10 ** 30 - 2 - 4)


class TestMedians(WholeCase):
    def test_a_search_through_all_whole_ratings_with_marks(self):
        for panel in small_panels(342, 60) + drawn_panels(344, 30, items=5, rules=6, mark=MARK, weight=WEIGHT):
            found = median_ratings(panel, marks_of(panel))
            with self.subTest(panel=panel):
                self.assertEqual(self.call(least_spread, panel), spread(panel, found[0]))
                lowest, highest = self.call(lowest_median, panel), self.call(highest_median, panel)
                self.check_whole(lowest, len(panel[0]))
                self.check_whole(highest, len(panel[0]))
                self.assertIn(lowest, found)
                self.assertIn(highest, found)
                self.assertEqual(lowest, tuple(min(parts) for parts in zip(*found)))
                self.assertEqual(highest, tuple(max(parts) for parts in zip(*found)))

    def test_a_search_through_all_integers_between_the_marks(self):
        for panel in drawn_panels(345, 50, items=3, rules=4, mark=4, weight=3) + [P]:
            found = median_ratings(panel, between(panel))
            with self.subTest(panel=panel):
                self.assertEqual(least_spread(panel), spread(panel, found[0]))
                self.assertEqual(lowest_median(panel), tuple(min(parts) for parts in zip(*found)))
                self.assertEqual(highest_median(panel), tuple(max(parts) for parts in zip(*found)))

    def check_ends(self, panel):
        """Check what can be checked without a search."""
        lowest, highest = lowest_median(panel), highest_median(panel)
        marks = marks_of(panel)
        for whole in (lowest, highest):
            self.check_whole(whole, len(panel[0]))
            self.assertTrue(obeys(panel, whole))
            self.assertEqual(spread(panel, whole), least_spread(panel))
            self.assertTrue(set(whole) <= set(marks))
        self.assertTrue(all(low <= high for low, high in zip(lowest, highest)))

    def test_large_panels_and_edges(self):
        source = random.Random(346)
        for panel in many_panels(347, 20):
            with self.subTest(panel=panel):
                self.check_ends(panel)
                least, lowest, highest = least_spread(panel), lowest_median(panel), highest_median(panel)
                marks = marks_of(panel)
                for time in range(40):
                    whole = [source.choice(marks) for item in panel[0]]
                    if time % 2:
                        # Next to a median rating.
                        whole = list(source.choice((lowest, highest)))
                        whole[source.randrange(len(whole))] += source.choice((-1, 1, marks[-1] - marks[0]))
                    if obeys(panel, whole):
                        self.assertGreaterEqual(spread(panel, whole), least)
                        if spread(panel, whole) == least:
                            self.assertTrue(all(low <= part <= high for low, part, high in zip(lowest, whole, highest)))

    def test_eight_items_with_two_marks(self):
        for panel in drawn_panels(348, 25, mark=0, weight=3):
            source = random.Random(len(panel[1]))
            panel = (tuple((source.choice((-5, 8)), weight) for mark, weight in panel[0]), panel[1])
            found = median_ratings(panel, marks_of(panel))
            with self.subTest(panel=panel):
                self.assertEqual(lowest_median(panel), tuple(min(parts) for parts in zip(*found)))
                self.assertEqual(highest_median(panel), tuple(max(parts) for parts in zip(*found)))

    def test_known_results(self):
        known = (
            (P, 4, (0, 0, 3), (3, 3, 3)),
            ((((5, 3),), ()), 0, (5,), (5,)),
            ((((-MARK, WEIGHT),), ()), 0, (-MARK,), (-MARK,)),
            ((SPREAD, ()), 0, (5, -2, 7, 7, 0, -9, 3, 1), (5, -2, 7, 7, 0, -9, 3, 1)),
            ((RISING, CHAIN), 0, tuple(mark for mark, weight in RISING), tuple(mark for mark, weight in RISING)),
            ((((4, 1), (0, 1)), ((0, 1), (1, 0))), 4, (0, 0), (4, 4)),
            ((((4, 2), (0, 1)), ((0, 1),)), 4, (4, 4), (4, 4)),
            ((((4, 1), (0, 2)), ((0, 1),)), 4, (0, 0), (0, 0)),
            ((((MARK, WEIGHT), (-MARK, 1)), ((0, 1),)), 2 * MARK, (MARK, MARK), (MARK, MARK)),
            ((((MARK, WEIGHT), (-MARK, WEIGHT)), ((0, 1),)), 2 * MARK * WEIGHT, (-MARK, -MARK), (MARK, MARK)),
            ((((2, 1), (2, 5), (2, 3)), ((0, 1), (1, 2))), 0, (2, 2, 2), (2, 2, 2)),
        )
        for panel, least, lowest, highest in known:
            with self.subTest(panel=panel):
                self.assertEqual(least_spread(panel), least)
                self.assertEqual((lowest_median(panel), highest_median(panel)), (lowest, highest))

    def test_reversed_panels(self):
        for panel in many_panels(349, 15):
            with self.subTest(panel=panel):
                turned = reverse_panel(panel)
                self.assertEqual(least_spread(turned), least_spread(panel))
                self.assertEqual(lowest_median(turned), tuple(-part for part in highest_median(panel)))
                self.assertEqual(highest_median(turned), tuple(-part for part in lowest_median(panel)))

    def test_shifted_panels(self):
        for panel in drawn_panels(350, 30):
            moved = shift_panel(panel, 1000)
            self.assertEqual(least_spread(moved), least_spread(panel))
            self.assertEqual(lowest_median(moved), tuple(part + 1000 for part in lowest_median(panel)))


class TestIsMedian(WholeCase):
    def check_value(self, panel, value, expected):
        self.assertIs(self.call(is_median, panel, value), expected)

    def test_all_whole_ratings_between_the_marks(self):
        seen = {True: 0, False: 0}
        for panel in drawn_panels(351, 90, items=3, rules=4, mark=3, weight=2) + [P]:
            found = median_ratings(panel, between(panel))
            for whole in whole_ratings((panel[0], ()), between(panel)):
                seen[whole in found] += 1
                with self.subTest(panel=panel, whole=whole):
                    self.assertIs(is_median(panel, whole), whole in found)
        self.assertGreater(min(seen.values()), 100)

    def test_minimum_and_maximum_of_two_median_ratings(self):
        crossing = 0
        apart = (((4, 1), (0, 1), (3, 1), (1, 1)), ((0, 1), (2, 3)))
        for panel in [apart, *drawn_panels(352, 120, items=4, rules=4, mark=3, weight=1)]:
            found = median_ratings(panel, between(panel))
            for one in found:
                for other in found:
                    least = tuple(min(parts) for parts in zip(one, other))
                    crossing += least not in (one, other)
                    self.assertTrue(is_median(panel, least))
                    self.assertTrue(is_median(panel, tuple(max(parts) for parts in zip(one, other))))
        self.assertGreater(crossing, 20)

    def test_the_ends(self):
        for panel in many_panels(354, 20):
            lowest, highest = lowest_median(panel), highest_median(panel)
            with self.subTest(panel=panel):
                self.check_value(panel, lowest, True)
                self.check_value(panel, highest, True)
                for item in range(len(lowest)):
                    below = (*lowest[:item], lowest[item] - 1, *lowest[item + 1:])
                    above = (*highest[:item], highest[item] + 1, *highest[item + 1:])
                    self.check_value(panel, below, False)
                    self.check_value(panel, above, False)

    def test_integers_between_the_marks(self):
        panel = (((MARK, 1), (-MARK, 1)), ((0, 1),))
        for part in (-MARK, -1, 0, 7, MARK - 1, MARK):
            self.check_value(panel, (part, part), True)
            self.check_value(panel, (part, part + 1), False)
        for part in (-MARK - 1, MARK + 1, 10 ** 30 - 1, 1 - 10 ** 30):
            self.check_value(panel, (part, part), False)
        self.check_value(P, (1, 1, 3), True)
        self.check_value(P, (2, 2, 3), True)
        self.check_value(P, (1, 2, 3), False)
        self.check_value(P, (2, 1, 3), False)

    def test_ratings_that_do_not_obey_the_rules(self):
        self.check_value(P, (4, 0, 3), False)
        self.check_value((FALLING, CHAIN), tuple(mark for mark, weight in FALLING), False)
        self.check_value((FALLING, ()), tuple(mark for mark, weight in FALLING), True)

    def test_30_digits(self):
        for part in (10 ** 29, 10 ** 30 - 1, 1 - 10 ** 30):
            self.check_value(P, (part, part, part), False)
            self.check_value(P, (0, 0, part), False)
            self.check_value(P, (part, 0, 3), False)

    def test_wrong_forms(self):
        self.check_value(P, (0, 0, 3), True)
        wrong = [
            (0, 0), (0, 0, 3, 3), (), [0, 0, 3], ((0, 1), (0, 1), (3, 1)), (False, False, 3), (0, False, 3), (True, True, 3),
            (1, True, 3), ("0", "0", "3"), (0, 0, "3"), (None, 0, 3), (0, 0, None), ([0], 0, 3), {}, "003", (0, 0, (3,)),
        ]
        for value in wrong:
            with self.subTest(value=value):
                self.check_value(P, value, False)
        self.check_value((((1, 1),), ()), (1,), True)
        self.check_value((((1, 1),), ()), (True,), False)
        self.check_value((((0, 1),), ()), (False,), False)

    def test_values_of_all_kinds(self):
        for value in any_values():
            with self.subTest(value=value):
                self.check_value(P, value, False)
                for at in range(3):
                    parts = [0, 0, 3]
                    parts[at] = value
                    expected = type(value) is int and tuple(parts) in median_ratings(P, range(0, 5))
                    self.check_value(P, tuple(parts), expected)


class TestInterface(WholeCase):
    def test_each_function_is_defined_in_this_module(self):
        self.check_module(medians, ("spread_of", "least_spread", "lowest_median", "highest_median", "is_median"))

    def test_no_call_takes_long(self):
        for panel in [*edge_panels().values(), (SPREAD, GRID), (SPREAD, ())]:
            with self.subTest(panel=panel):
                self.check_time(least_spread, panel)
                self.check_time(lowest_median, panel)
                self.check_time(highest_median, panel)
                self.check_time(is_median, panel, highest_median(panel))
                self.check_time(spread_of, panel, (10 ** 30 - 1,) * len(panel[0]))


if __name__ == "__main__":
    unittest.main()
