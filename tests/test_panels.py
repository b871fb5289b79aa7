"""Points 8, 9 and 13: panels, find_fault and average_of."""

import unittest

from cases import CallCase
from oracles import all_groups, average, told
from poolmarks import panels
from poolmarks.panels import average_of, find_fault
from samples import FALLING, GRID, MARK, P, WEIGHT
from samples import any_values, drawn_panels, edge_panels, many_panels

THREE = (((4, 1), (0, 1), (3, 2)), ((0, 1), (1, 2), (2, 0)))
FULL = (FALLING, GRID)

# For each kind of place what cannot stand there. A rule (low, high) has two of the first three items.
WRONG_PANELS = (
    None, True, 0, "panel", (), ((4, 1),), (THREE[0],), (*THREE, ()), list(THREE), {"items": THREE[0], "rules": ()},
)
WRONG_ITEMS = (
    None, False, 3, "items", (), list(THREE[0]), {}, {"a": (1, 1)}, ((1, 1),) * 9, ((1, 1),) * 4000, [],
)
WRONG_RULES = (None, True, 0, "", [], list(THREE[1]), {}, ((0, 1),) * 17, ((0, 1),) * 4000)
WRONG_PAIRS = (None, True, 1, "ab", (), (1,), (1, 2, 3), [], [1, 2], {}, {"a": 1, "b": 2}, tuple(range(4000)))
NO_INTEGERS = (None, True, False, "", "1", (), (1,), [], [1], {}, {"a": 1})
WRONG_MARKS = (*NO_INTEGERS, MARK + 1, -MARK - 1, 10 ** 29, -(10 ** 30 - 1))
WRONG_WEIGHTS = (*NO_INTEGERS, 0, -1, WEIGHT + 1, -WEIGHT, 10 ** 30 - 1)
WRONG_INDEXES = (*NO_INTEGERS, -1, -2, 8, 9, 10 ** 29)


def replaced(value, path, new):
    """Return the nested tuple with a new part at the path."""
    if not path:
        return new
    at, *rest = path
    return (*value[:at], replaced(value[at], rest, new), *value[at + 1:])


def places(panel):
    """Return each place of a panel, in the order of point 9, with its reason and what is wrong there."""
    found = [((), "panel", WRONG_PANELS), ((0,), "items", WRONG_ITEMS), ((1,), "rules", WRONG_RULES)]
    for k in range(len(panel[0])):
        found.append(((0, k), "item", WRONG_PAIRS))
        found.append(((0, k, 0), "mark", WRONG_MARKS))
        found.append(((0, k, 1), "weight", WRONG_WEIGHTS))
    for k, (low, high) in enumerate(panel[1]):
        found.append(((1, k), "rule", WRONG_PAIRS))
        found.append(((1, k, 0), "low", (*WRONG_INDEXES, len(panel[0]))))
        found.append(((1, k, 1), "high", (*WRONG_INDEXES, len(panel[0]), low)))
    return found


def all_faults(value):
    """Yield every fault of a value as a panel, in the order of point 9, up to where looking on makes sense."""
    def whole(part):
        return type(part) is int

    if type(value) is not tuple or len(value) != 2:
        yield (), "panel"
        return
    for at, (name, least, most) in enumerate((("items", 1, 8), ("rules", 0, 16))):
        if type(value[at]) is not tuple or len(value[at]) not in range(least, most + 1):
            yield (at,), name
    for k, item in enumerate(value[0] if type(value[0]) is tuple else ()):
        if type(item) is not tuple or len(item) != 2:
            yield (0, k), "item"
            continue
        if not whole(item[0]) or abs(item[0]) > MARK:
            yield (0, k, 0), "mark"
        if not whole(item[1]) or item[1] not in range(1, WEIGHT + 1):
            yield (0, k, 1), "weight"
    for k, rule in enumerate(value[1] if type(value[1]) is tuple else ()):
        if type(rule) is not tuple or len(rule) != 2:
            yield (1, k), "rule"
            continue
        if not whole(rule[0]) or rule[0] not in range(len(value[0])):
            yield (1, k, 0), "low"
        if not whole(rule[1]) or rule[1] not in range(len(value[0])) or rule[0] == rule[1]:
            yield (1, k, 1), "high"


class TestFindFault(CallCase):
    def check_fault(self, value, expected):
        self.assertEqual(repr(self.call(find_fault, value)), repr(expected))

    def test_panels_have_no_fault(self):
        for panel in [THREE, FULL, *many_panels(9, 100)]:
            with self.subTest(panel=panel):
                self.assertIsNone(self.call(find_fault, panel))

    def test_each_size_up_to_the_limits(self):
        for many in range(0, 20):
            with self.subTest(many=many):
                self.check_fault((((1, 1),) * many, ()), None if 1 <= many <= 8 else ((0,), "items"))
                self.check_fault((((1, 1),) * 2, ((1, 0),) * many), None if many <= 16 else ((1,), "rules"))

    def test_each_limit_and_one_beyond_it(self):
        for k in range(8):
            for mark, weight, fault in (
                (MARK, 1, None), (-MARK, WEIGHT, None), (0, 1, None), (0, 2, None), (MARK - 1, WEIGHT - 1, None),
                (MARK + 1, 1, ((0, k, 0), "mark")), (-MARK - 1, 1, ((0, k, 0), "mark")),
                (0, 0, ((0, k, 1), "weight")), (0, -1, ((0, k, 1), "weight")),
                (0, WEIGHT + 1, ((0, k, 1), "weight")),
            ):
                with self.subTest(k=k, mark=mark, weight=weight):
                    self.check_fault(replaced(FULL, (0, k), (mark, weight)), fault)

    def test_each_index_of_a_rule(self):
        for size in (1, 2, 3, 8):
            for low in range(-2, 10):
                for high in range(-2, 10):
                    fault = None
                    if not 0 <= low < size:
                        fault = ((1, 0, 0), "low")
                    elif not 0 <= high < size or low == high:
                        fault = ((1, 0, 1), "high")
                    with self.subTest(size=size, low=low, high=high):
                        self.check_fault((((0, 1),) * size, ((low, high),)), fault)

    def test_each_reason_at_each_place(self):
        for panel in (THREE, FULL):
            for path, reason, wrong in places(panel):
                for value in wrong:
                    with self.subTest(path=path, value=value):
                        self.check_fault(replaced(panel, path, value), (path, reason))

    def test_of_two_faults_the_one_that_is_listed_first(self):
        for panel in (THREE, FULL):
            found = places(panel)[1:]
            for at, (path, reason, wrong) in enumerate(found):
                for later, other, more in found[at + 1:]:
                    if later[:len(path)] != path:
                        value = replaced(replaced(panel, later, more[0]), path, wrong[-1])
                        with self.subTest(path=path, later=later):
                            self.check_fault(value, (path, reason))

    def test_faults_in_both_parts_of_a_pair(self):
        for k in range(3):
            for mark in WRONG_MARKS:
                for weight in WRONG_WEIGHTS:
                    self.check_fault(replaced(THREE, (0, k), (mark, weight)), ((0, k, 0), "mark"))
            for low in WRONG_INDEXES:
                for high in WRONG_INDEXES:
                    self.check_fault(replaced(THREE, (1, k), (low, high)), ((1, k, 0), "low"))

    def test_values_of_all_kinds(self):
        for value in any_values():
            with self.subTest(value=value):
                self.check_fault(value, next(all_faults(value), None))

    def test_values_of_all_kinds_at_each_place(self):
        for path, reason, wrong in places(THREE):
            for part in any_values():
                value = replaced(THREE, path, part)
                with self.subTest(path=path, part=part):
                    self.check_fault(value, next(all_faults(value), None))

    def test_lists_in_the_place_of_tuples(self):
        for path, reason, wrong in places(THREE):
            part = THREE
            for at in path:
                part = part[at]
            if isinstance(part, tuple):
                with self.subTest(path=path):
                    self.check_fault(replaced(THREE, path, list(part)), (path, reason))

    def test_bools_in_the_place_of_equal_integers(self):
        ones = (((1, 1), (0, 1)), ((0, 1), (1, 0)))
        for path, reason, wrong in places(ones):
            if len(path) == 3:
                number = ones[path[0]][path[1]][path[2]]
                with self.subTest(path=path):
                    self.check_fault(replaced(ones, path, bool(number)), (path, reason))

    def test_results_of_the_package_that_are_no_panels(self):
        for value in (((2, 1), (2, 1), (3, 1)), (((2, 1), (0, 1)), ((3, 1), (2,))), ((), (0, 1, 2), (1, 2), (2,))):
            with self.subTest(value=value):
                self.check_fault(value, next(all_faults(value)))

    def test_later_changes_have_no_effect(self):
        value = [1, 2]
        fault = find_fault(((value,), ()))
        value.append(3)
        self.assertEqual(fault, ((0, 0), "item"))


class TestAverageOf(CallCase):
    def check_groups(self, panel, groups):
        for group in groups:
            with self.subTest(panel=panel, group=group):
                self.assertEqual(self.call(average_of, panel, group), told(average(panel, group)))

    def test_each_group_of_each_edge(self):
        for panel in edge_panels().values():
            self.check_groups(panel, all_groups(panel)[1:])

    def test_each_group_of_drawn_panels(self):
        for panel in drawn_panels(13, 20) + drawn_panels(14, 20, mark=MARK, weight=WEIGHT):
            self.check_groups(panel, all_groups(panel)[1:])

    def test_single_items_have_their_marks(self):
        for panel in many_panels(15, 20):
            for item, (mark, weight) in enumerate(panel[0]):
                with self.subTest(panel=panel, item=item):
                    self.assertEqual(average_of(panel, (item,)), (mark, 1))

    def test_weights_and_signs(self):
        panel = (((4, 1), (1, 2), (-3, 2), (0, 5)), ())
        self.assertEqual(average_of(panel, (0, 1)), (2, 1))
        self.assertEqual(average_of(panel, (0, 2)), (-2, 3))
        self.assertEqual(average_of(panel, (0, 1, 2)), (0, 1))
        self.assertEqual(average_of(panel, (0, 1, 2, 3)), (0, 1))
        self.assertEqual(average_of(panel, (1, 3)), (2, 7))


class TestInterface(CallCase):
    def test_each_function_is_defined_in_this_module(self):
        self.check_module(panels, ("find_fault", "average_of"))

    def test_no_call_takes_long(self):
        for panel in edge_panels().values():
            with self.subTest(panel=panel):
                self.check_time(find_fault, panel)
                self.check_time(average_of, panel, tuple(range(len(panel[0]))))
        for value in any_values():
            self.check_time(find_fault, value)
        self.assertIsNone(find_fault(P))


if __name__ == "__main__":
    unittest.main()
