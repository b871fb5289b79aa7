"""The examples of the document, as they stand there, and those of README.md."""

import doctest
import pathlib
import unittest

from samples import P

EXAMPLES = {
    4: r"""
>>> from poolmarks.fractions import is_fraction
>>> is_fraction((1, 2)), is_fraction((2, 4)), is_fraction((0, 1))
(True, False, True)
""",
    5: r"""
>>> from poolmarks.fractions import make_fraction
>>> make_fraction(6, -4)
(-3, 2)
""",
    6: r"""
>>> from poolmarks.fractions import add_fractions, multiply_fractions, subtract_fractions
>>> add_fractions((1, 2), (1, 3)), subtract_fractions((1, 2), (1, 3)), multiply_fractions((1, 2), (2, 3))
((5, 6), (1, 6), (1, 3))
""",
    7: r"""
>>> from poolmarks.fractions import compare_fractions
>>> compare_fractions((1, 2), (2, 3))
-1
""",
    9: r"""
>>> from poolmarks.panels import find_fault
>>> find_fault((((4, 1), (0, 0)), ()))
((0, 1, 1), 'weight')
""",
    10: r"""
>>> from poolmarks.groups import is_downward, is_upward
>>> is_upward(P, (1, 2)), is_upward(P, (1,)), is_downward(P, (0, 1))
(True, False, True)
""",
    11: r"""
>>> from poolmarks.groups import upward_sets
>>> upward_sets(P)
((), (0, 1, 2), (1, 2), (2,))
""",
    12: r"""
>>> from poolmarks.groups import items_above, items_below
>>> items_above(P, 1), items_below(P, 1)
((1, 2), (0, 1))
""",
    13: r"""
>>> from poolmarks.panels import average_of
>>> average_of(P, (1, 2))
(2, 1)
""",
    14: r"""
>>> from poolmarks.ratings import obeys_rules
>>> obeys_rules(P, ((2, 1), (2, 1), (3, 1))), obeys_rules(P, ((4, 1), (0, 1), (3, 1)))
(True, False)
""",
    15: r"""
>>> from poolmarks.ratings import cost_of
>>> cost_of(P, ((2, 1), (2, 1), (3, 1)))
(8, 1)
""",
    16: r"""
>>> from poolmarks.ratings import best_rating
>>> best_rating(P)
((2, 1), (2, 1), (3, 1))
""",
    17: r"""
>>> from poolmarks.ratings import level_groups
>>> level_groups(P)
(((2, 1), (0, 1)), ((3, 1), (2,)))
""",
    18: r"""
>>> from poolmarks.amounts import rating_of_amounts
>>> rating_of_amounts(P, ((2, 1), (0, 1)))
((2, 1), (2, 1), (3, 1))
""",
    19: r"""
>>> from poolmarks.amounts import supports_rating
>>> supports_rating(P, ((2, 1), (2, 1), (3, 1)), ((2, 1), (0, 1)))
True
""",
    20: r"""
>>> from poolmarks.amounts import find_amounts
>>> find_amounts(P, ((2, 1), (2, 1), (3, 1)))
((2, 1), (0, 1))
""",
    21: r"""
>>> from poolmarks.judgements import group_force
>>> group_force(P, ((3, 1), (3, 1), (3, 1)), (0, 1), 'down'), group_force(P, ((3, 1), (3, 1), (3, 1)), (1,), 'down')
((2, 1), None)
""",
    22: r"""
>>> from poolmarks.judgements import judge_rating
>>> judge_rating(P, ((2, 1), (2, 1), (3, 1)))
('best', ((2, 1), (0, 1)))
""",
    23: r"""
>>> from poolmarks.judgements import check_judgement
>>> check_judgement(P, ((3, 1), (3, 1), (3, 1)), ('drawn', (0, 1, 2), 'down'))
True
""",
    24: r"""
>>> from poolmarks.thresholds import surplus_of
>>> surplus_of(P, (1, 2), (5, 2))
(-3, 2)
""",
    25: r"""
>>> from poolmarks.thresholds import top_sets
>>> top_sets(P, (2, 1))
((2,), (0, 1, 2))
""",
    26: r"""
>>> from poolmarks.witnesses import find_witnesses
>>> find_witnesses(P, 0)
((2, 1), (0, 1, 2), (0, 1))
""",
    27: r"""
>>> from poolmarks.witnesses import check_witnesses
>>> check_witnesses(P, 0, ((2, 1), (0, 1, 2), (0, 1)))
True
""",
    28: r"""
>>> from poolmarks.rules import without_rule
>>> without_rule(P, 0)
(((4, 1), (0, 1), (3, 2)), ((1, 2),))
""",
    29: r"""
>>> from poolmarks.rules import amount_range
>>> amount_range(P, 0)
((2, 1), (2, 1))
""",
    30: r"""
>>> from poolmarks.rules import idle_rules
>>> idle_rules(P)
(1,)
""",
    31: r"""
>>> from poolmarks.growth import with_mark
>>> with_mark(P, 0, 1, 5)
(((1, 5), (0, 1), (3, 2)), ((0, 1), (1, 2)))
""",
    32: r"""
>>> from poolmarks.growth import mark_to_reach
>>> mark_to_reach(P, 0, 1, (3, 1)), mark_to_reach(P, 2, 0, (3, 1)), mark_to_reach(P, 0, 2, (1, 1))
(('from', (6, 1)), ('never',), ('always',))
""",
    33: r"""
>>> from poolmarks.medians import spread_of
>>> spread_of(P, (0, 0, 3))
4
""",
    34: r"""
>>> from poolmarks.medians import least_spread
>>> least_spread(P)
4
""",
    35: r"""
>>> from poolmarks.medians import highest_median, lowest_median
>>> lowest_median(P), highest_median(P)
((0, 0, 3), (3, 3, 3))
""",
    36: r"""
>>> from poolmarks.medians import is_median
>>> is_median(P, (2, 2, 3)), is_median(P, (4, 4, 4))
(True, False)
""",
    37: r"""
>>> from poolmarks.rows import start_blocks
>>> start_blocks(((4, 1), (0, 1), (3, 2)))
((1, 4, 1), (1, 0, 1), (1, 6, 2))
""",
    38: r"""
>>> from poolmarks.rows import falling_places
>>> falling_places(((1, 4, 1), (1, 0, 1), (1, 6, 2)))
(0,)
""",
    39: r"""
>>> from poolmarks.rows import merge_blocks
>>> merge_blocks(((1, 4, 1), (1, 0, 1), (1, 6, 2)), 0)
((2, 4, 2), (1, 6, 2))
""",
    40: r"""
>>> from poolmarks.rows import pool_row
>>> pool_row(((4, 1), (0, 1), (3, 2)))
((2, 4, 2), (1, 6, 2))
""",
    41: r"""
>>> from poolmarks.rows import rate_row
>>> rate_row(((4, 1), (0, 1), (3, 2)))
((2, 1), (2, 1), (3, 1))
""",
    42: r"""
>>> from poolmarks.changes import reverse_panel
>>> reverse_panel(P)
(((-4, 1), (0, 1), (-3, 2)), ((1, 0), (2, 1)))
""",
    43: r"""
>>> from poolmarks.changes import scale_panel
>>> scale_panel(P, 2)
(((8, 1), (0, 1), (6, 2)), ((0, 1), (1, 2)))
""",
    44: r"""
>>> from poolmarks.changes import combine_panels
>>> combine_panels((((1, 1),), ()), (((2, 1), (5, 1)), ((1, 0),)))
(((1, 1), (2, 1), (5, 1)), ((2, 1),))
""",
    45: r"""
>>> from poolmarks.changes import relabel_panel
>>> relabel_panel(P, (2, 0, 1))
(((3, 2), (4, 1), (0, 1)), ((1, 2), (2, 0)))
""",
    46: r"""
>>> from poolmarks.changes import without_item
>>> without_item(P, 1)
(((4, 1), (3, 2)), ())
""",
    47: r"""
>>> from poolmarks.changes import clip_rating
>>> clip_rating(((2, 1), (2, 1), (3, 1)), (5, 2), (4, 1))
((5, 2), (5, 2), (3, 1))
""",
    48: r"""
>>> from poolmarks.books import Book
>>> Book((((4, 0),), ()))
raises InvalidPanel((0, 0, 1), 'weight')
""",
    49: r"""
>>> from poolmarks.books import Book
>>> B = Book(P)
>>> B.set_mark(3, 7)
raises NoSuchItem(3)
""",
    50: r"""
>>> from poolmarks.books import Book
>>> B = Book(P)
>>> B.add_rule(0, 0)
raises NoSuchItem(0)
""",
    51: r"""
>>> from poolmarks.books import Book
>>> B = Book(P)
>>> B.undo()
raises NothingToUndo()
""",
    52: r"""
>>> from poolmarks.books import Book
>>> B = Book(P)
>>> B.run([('set_mark', 0, 1), ('drop_rule', 5)])
raises BatchFailed(1)
""",
    53: r"""
>>> from poolmarks.books import Book
>>> B = Book(P)
>>> B.run([('set_mark', 0, 1)])
>>> B.log()
(('begin', 1), ('end', 1))
""",
    54: r"""
>>> from poolmarks.books import Book
>>> B = Book(P)
>>> B.set_mark(0, 1)
>>> B.actions(), B.rating()
((('set_mark', 0, 1),), ((1, 2), (1, 2), (3, 1)))
""",
    55: r"""
>>> from poolmarks.books import Book
>>> B = Book(P)
>>> B.state_at(0) == P
True
""",
    56: r"""
>>> from poolmarks.books import Book
>>> str(Book((((4, 1),), ())))
'1 items, 0 rules, 0 actions'
""",
    57: r"""
>>> from poolmarks.texts import format_rating
>>> format_rating(((1, 2), (3, 1)))
'1/2 3'
""",
    58: r"""
>>> from poolmarks.texts import parse_rating
>>> parse_rating('1/2 2/4')
raises ParseError(1)
""",
    59: r"""
>>> from poolmarks.texts import parse_panel
>>> parse_panel('item 4 1')
raises ParseError(1)

>>> from poolmarks.texts import parse_panel
>>> parse_panel('')
raises ParseError(0)

>>> from poolmarks.texts import parse_panel
>>> parse_panel('item 4 1\nrule 0 1\n')
raises ParseError(1)
""",
    60: r"""
>>> from poolmarks.books import Book
>>> from poolmarks.consoles import Console
>>> B = Book(P)
>>> Console(B).execute('reach 0 1 3')
'6'
""",
    61: r"""
>>> from poolmarks.books import Book
>>> from poolmarks.consoles import Console
>>> B = Book(P)
>>> Console(B).transcript()
()
""",
}

README = pathlib.Path(__file__).resolve().parent.parent / "README.md"


class TestExamples(unittest.TestCase):
    def outcome(self, source, names):
        """Return what a session shows for a statement, in the way of the document."""
        try:
            code = compile(source, "example", "eval")
        except SyntaxError:
            exec(source, names)
            return ""
        try:
            result = eval(code, names)
        except Exception as error:
            return f"raises {error!r}"
        return "" if result is None else repr(result)

    def test_each_example(self):
        for point, text in EXAMPLES.items():
            names = {"P": P}
            examples = doctest.DocTestParser().get_examples(text)
            self.assertGreater(len(examples), 1)
            for example in examples:
                with self.subTest(point=point, source=example.source):
                    self.assertEqual(self.outcome(example.source.strip(), names), example.want.strip())

    def test_the_examples_of_the_readme(self):
        # The fences are no part of what Python shows.
        text = README.read_text(encoding="utf-8").replace("```", "")
        example = doctest.DocTestParser().get_doctest(text, {}, "README.md", None, None)
        told = []
        results = doctest.DocTestRunner(verbose=False).run(example, out=told.append)
        self.assertEqual(results.failed, 0, "".join(told))
        self.assertGreater(results.attempted, 20)


if __name__ == "__main__":
    unittest.main()
