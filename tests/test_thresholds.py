"""Points 24 and 25: surpluses over a threshold, and the groups that have the greatest."""

import unittest

from cases import CallCase
from oracles import all_groups, number, numbers, surplus, told, upward_groups
from poolmarks import thresholds
from poolmarks.ratings import best_rating
from poolmarks.thresholds import surplus_of, top_sets
from samples import MARK, P, WEIGHT
from samples import drawn_fractions, drawn_panels, edge_panels, edge_thresholds, known_panels, many_panels
from samples import near_fractions


def thresholds_for(panel):
    """Return thresholds at the best ratings, between them, next to them and far away."""
    values = sorted(set(numbers(best_rating(panel))))
    found = [told(value) for value in values]
    found += [told((one + other) / 2) for one, other in zip(values, values[1:])]
    for value in values:
        found += near_fractions(told(value))
    found += [(mark, 1) for mark, weight in panel[0]]
    return found + edge_thresholds()


class TestSurplusOf(CallCase):
    def check_surplus(self, panel, group, threshold):
        found = self.call(surplus_of, panel, group, threshold)
        self.check_fraction(found)
        self.assertEqual(found, told(surplus(panel, group, number(threshold))))

    def test_each_group_of_each_edge(self):
        for name, panel in edge_panels().items():
            for group in all_groups(panel)[::3]:
                for threshold in ((0, 1), (5, 2), (-7, 3), (MARK, 1), (1, 10 ** 399)):
                    with self.subTest(name=name, group=group, threshold=threshold):
                        self.check_surplus(panel, group, threshold)

    def test_groups_that_are_not_closed_and_thresholds_of_all_sizes(self):
        for panel in drawn_panels(50, 12) + drawn_panels(51, 6, mark=MARK, weight=WEIGHT):
            for threshold in thresholds_for(panel) + drawn_fractions(52, 5):
                for group in all_groups(panel)[::17]:
                    with self.subTest(panel=panel, group=group, threshold=threshold):
                        self.check_surplus(panel, group, threshold)

    def test_the_empty_group_has_none(self):
        for panel in edge_panels().values():
            for threshold in edge_thresholds():
                self.assertEqual(surplus_of(panel, (), threshold), (0, 1))

    def test_a_threshold_of_400_digits(self):
        threshold = (10 ** 400 - 1, 10 ** 399 + 6)
        top, bottom = threshold
        self.assertEqual(number(surplus_of(P, (0, 2), threshold)), number((10 * bottom - 3 * top, bottom)))

    def test_levels_have_none_over_their_value(self):
        for panel, rating in known_panels(53, 60):
            for value in set(rating):
                group = tuple(item for item, other in enumerate(rating) if other == value)
                with self.subTest(panel=panel, group=group):
                    self.assertEqual(surplus_of(panel, group, value), (0, 1))


class TestTopSets(CallCase):
    def searched(self, panel, threshold):
        """Return the intersection and the union of all upward closed groups with the greatest surplus."""
        found = {group: surplus(panel, group, number(threshold)) for group in upward_groups(panel)}
        most = max(found.values())
        best = [set(group) for group in found if found[group] == most]
        least = tuple(sorted(set.intersection(*best)))
        greatest = tuple(sorted(set.union(*best)))
        # Guarantee (c) says that both are among them.
        self.assertEqual((found[least], found[greatest]), (most, most))
        return (least, greatest)

    def rated(self, panel, threshold):
        rating = numbers(best_rating(panel))
        above = tuple(item for item, value in enumerate(rating) if value > number(threshold))
        return (above, tuple(item for item, value in enumerate(rating) if value >= number(threshold)))

    def check_sets(self, panel, threshold):
        found = self.call(top_sets, panel, threshold)
        self.assertIs(type(found), tuple)
        self.check_group(found[0])
        self.check_group(found[1])
        self.assertEqual(found, self.rated(panel, threshold))
        return found

    def test_a_search_through_all_upward_closed_groups(self):
        for panel in drawn_panels(54, 25) + drawn_panels(55, 25, items=5, rules=5, mark=MARK, weight=WEIGHT):
            for threshold in thresholds_for(panel)[::2]:
                with self.subTest(panel=panel, threshold=threshold):
                    self.assertEqual(self.check_sets(panel, threshold), self.searched(panel, threshold))

    def test_a_search_at_the_edges(self):
        for name, panel in edge_panels().items():
            for threshold in thresholds_for(panel)[::5]:
                with self.subTest(name=name, threshold=threshold):
                    self.assertEqual(self.check_sets(panel, threshold), self.searched(panel, threshold))

    def test_the_best_rating(self):
        for panel in many_panels(56, 20):
            for threshold in thresholds_for(panel):
                with self.subTest(panel=panel, threshold=threshold):
                    self.check_sets(panel, threshold)

    def test_thresholds_at_a_rating_and_next_to_it(self):
        for panel, rating in known_panels(57, 40):
            for value in set(rating):
                above = tuple(item for item, other in enumerate(rating) if number(other) > number(value))
                least = tuple(item for item, other in enumerate(rating) if number(other) >= number(value))
                top, bottom = value
                step = 10 ** 390
                below_it = told(number((top * step - 1, bottom * step)))
                above_it = told(number((top * step + 1, bottom * step)))
                with self.subTest(panel=panel, value=value):
                    self.assertEqual(top_sets(panel, value), (above, least))
                    self.assertEqual(top_sets(panel, below_it), (least, least))
                    self.assertEqual(top_sets(panel, above_it), (above, above))

    def test_thresholds_far_away(self):
        for name, panel in edge_panels().items():
            everything = tuple(range(len(panel[0])))
            with self.subTest(name=name):
                self.assertEqual(top_sets(panel, (10 ** 400 - 1, 1)), ((), ()))
                self.assertEqual(top_sets(panel, (1 - 10 ** 400, 1)), (everything, everything))
                self.assertEqual(top_sets(panel, (MARK + 1, 1)), ((), ()))
                self.assertEqual(top_sets(panel, (-MARK - 1, 1)), (everything, everything))


class TestInterface(CallCase):
    def test_each_function_is_defined_in_this_module(self):
        self.check_module(thresholds, ("surplus_of", "top_sets"))

    def test_no_call_takes_long(self):
        for name, panel in edge_panels().items():
            for threshold in edge_thresholds():
                with self.subTest(name=name, threshold=threshold):
                    self.check_time(surplus_of, panel, tuple(range(len(panel[0]))), threshold)
                    self.check_time(top_sets, panel, threshold)


if __name__ == "__main__":
    unittest.main()
