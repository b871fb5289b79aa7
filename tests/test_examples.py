"""The examples of the document, as they stand there, and those of README.md."""

import doctest
import pathlib
import unittest

from samples import P

EXAMPLES = {
    4: """
>>> from poolmarks.fractions import is_fraction
>>> is_fraction((1, 2)), is_fraction((2, 4)), is_fraction((0, 1))
(True, False, True)
""",
    5: """
>>> from poolmarks.fractions import make_fraction
>>> make_fraction(6, -4)
(-3, 2)
""",
    6: """
>>> from poolmarks.fractions import add_fractions, multiply_fractions, subtract_fractions
>>> add_fractions((1, 2), (1, 3)), subtract_fractions((1, 2), (1, 3)), multiply_fractions((1, 2), (2, 3))
((5, 6), (1, 6), (1, 3))
""",
    7: """
>>> from poolmarks.fractions import compare_fractions
>>> compare_fractions((1, 2), (2, 3))
-1
""",
    9: """
>>> from poolmarks.panels import find_fault
>>> find_fault((((4, 1), (0, 0)), ()))
((0, 1, 1), 'weight')
""",
    10: """
>>> from poolmarks.groups import is_downward, is_upward
>>> is_upward(P, (1, 2)), is_upward(P, (1,)), is_downward(P, (0, 1))
(True, False, True)
""",
    11: """
>>> from poolmarks.groups import upward_sets
>>> upward_sets(P)
((), (0, 1, 2), (1, 2), (2,))
""",
    12: """
>>> from poolmarks.groups import items_above, items_below
>>> items_above(P, 1), items_below(P, 1)
((1, 2), (0, 1))
""",
    13: """
>>> from poolmarks.panels import average_of
>>> average_of(P, (1, 2))
(2, 1)
""",
    14: """
>>> from poolmarks.ratings import obeys_rules
>>> obeys_rules(P, ((2, 1), (2, 1), (3, 1))), obeys_rules(P, ((4, 1), (0, 1), (3, 1)))
(True, False)
""",
    15: """
>>> from poolmarks.ratings import cost_of
>>> cost_of(P, ((2, 1), (2, 1), (3, 1)))
(8, 1)
""",
    16: """
>>> from poolmarks.ratings import best_rating
>>> best_rating(P)
((2, 1), (2, 1), (3, 1))
""",
    17: """
>>> from poolmarks.ratings import level_groups
>>> level_groups(P)
(((2, 1), (0, 1)), ((3, 1), (2,)))
""",
    18: """
>>> from poolmarks.amounts import rating_of_amounts
>>> rating_of_amounts(P, ((2, 1), (0, 1)))
((2, 1), (2, 1), (3, 1))
""",
    19: """
>>> from poolmarks.amounts import supports_rating
>>> supports_rating(P, ((2, 1), (2, 1), (3, 1)), ((2, 1), (0, 1)))
True
""",
    20: """
>>> from poolmarks.amounts import find_amounts
>>> find_amounts(P, ((2, 1), (2, 1), (3, 1)))
((2, 1), (0, 1))
""",
    24: """
>>> from poolmarks.thresholds import surplus_of
>>> surplus_of(P, (1, 2), (5, 2))
(-3, 2)
""",
    25: """
>>> from poolmarks.thresholds import top_sets
>>> top_sets(P, (2, 1))
((2,), (0, 1, 2))
""",
    28: """
>>> from poolmarks.rules import without_rule
>>> without_rule(P, 0)
(((4, 1), (0, 1), (3, 2)), ((1, 2),))
""",
    29: """
>>> from poolmarks.rules import amount_range
>>> amount_range(P, 0)
((2, 1), (2, 1))
""",
    30: """
>>> from poolmarks.rules import idle_rules
>>> idle_rules(P)
(1,)
""",
    37: """
>>> from poolmarks.rows import start_blocks
>>> start_blocks(((4, 1), (0, 1), (3, 2)))
((1, 4, 1), (1, 0, 1), (1, 6, 2))
""",
    38: """
>>> from poolmarks.rows import falling_places
>>> falling_places(((1, 4, 1), (1, 0, 1), (1, 6, 2)))
(0,)
""",
    39: """
>>> from poolmarks.rows import merge_blocks
>>> merge_blocks(((1, 4, 1), (1, 0, 1), (1, 6, 2)), 0)
((2, 4, 2), (1, 6, 2))
""",
    40: """
>>> from poolmarks.rows import pool_row
>>> pool_row(((4, 1), (0, 1), (3, 2)))
((2, 4, 2), (1, 6, 2))
""",
    41: """
>>> from poolmarks.rows import rate_row
>>> rate_row(((4, 1), (0, 1), (3, 2)))
((2, 1), (2, 1), (3, 1))
""",
}

README = pathlib.Path(__file__).resolve().parent.parent / "README.md"


class TestExamples(unittest.TestCase):
    def check_text(self, text, name):
        example = doctest.DocTestParser().get_doctest(text, {"P": P}, name, None, None)
        told = []
        results = doctest.DocTestRunner(verbose=False).run(example, out=told.append)
        self.assertEqual(results.failed, 0, "".join(told))
        self.assertGreater(results.attempted, 1)

    def test_each_example(self):
        for point, text in EXAMPLES.items():
            with self.subTest(point=point):
                self.check_text(text, f"point {point}")

    def test_the_examples_of_the_readme(self):
        # The fences are no part of what Python shows.
        self.check_text(README.read_text(encoding="utf-8").replace("```", ""), "README.md")


if __name__ == "__main__":
    unittest.main()
