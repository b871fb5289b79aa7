"""Points 4 to 7, with the conventions of point 3."""

import copy
import itertools
import math
import unittest

from poolmarks import fractions
from poolmarks.errors import ZeroDenominator
from poolmarks.fractions import add_fractions, compare_fractions, is_fraction
from poolmarks.fractions import make_fraction, multiply_fractions, subtract_fractions
from samples import HUGE, LONG, SMALL
from samples import any_values, drawn_fractions, large_fractions, mixed_fractions, small_fractions


class FractionCase(unittest.TestCase):
    def check_bool(self, value, expected):
        before = copy.deepcopy(value)
        first = is_fraction(value)
        second = is_fraction(value)
        self.assertIs(first, expected)
        self.assertIs(second, expected)
        self.assertEqual(value, before)

    def check_fraction(self, value):
        """Hold a value against point 4 without the function under test."""
        self.assertIs(type(value), tuple)
        self.assertEqual(len(value), 2)
        self.assertIs(type(value[0]), int)
        self.assertIs(type(value[1]), int)
        self.assertGreaterEqual(value[1], 1)
        self.assertEqual(math.gcd(value[0], value[1]), 1)

    def check_equal(self, value, numerator, denominator):
        """Hold a fraction against a number by cross multiplication."""
        self.check_fraction(value)
        self.assertEqual(value[0] * denominator, numerator * value[1])


class TestIsFraction(FractionCase):
    def fractions(self):
        return small_fractions() + large_fractions() + drawn_fractions(4, 200)

    def test_example(self):
        shown = repr((is_fraction((1, 2)), is_fraction((2, 4)), is_fraction((0, 1))))
        self.assertEqual(shown, "(True, False, True)")

    def test_fractions(self):
        for value in self.fractions():
            with self.subTest(value=value):
                self.check_bool(value, True)

    def test_multiplied_through(self):
        for top, bottom in self.fractions():
            for factor in (2, 3, 7, 10 ** 30, 3 ** 200):
                with self.subTest(top=top, bottom=bottom, factor=factor):
                    self.check_bool((top * factor, bottom * factor), False)

    def test_every_small_pair(self):
        for top in SMALL:
            for bottom in SMALL:
                with self.subTest(top=top, bottom=bottom):
                    self.check_bool((top, bottom), bottom >= 1 and math.gcd(top, bottom) == 1)

    def test_zero_is_written_in_one_way(self):
        for bottom in (-1, 0, 2, 3, 10 ** 30, 7 ** 400):
            with self.subTest(bottom=bottom):
                self.check_bool((0, bottom), False)
        self.check_bool((0, 1), True)

    def test_negated_parts(self):
        for top, bottom in self.fractions():
            with self.subTest(top=top, bottom=bottom):
                self.check_bool((-top, bottom), True)
                self.check_bool((top, -bottom), False)
                self.check_bool((-top, -bottom), False)

    def test_replaced_parts(self):
        for top, bottom in self.fractions():
            for part in (0, 1, 2, -3, 10 ** 29, 2 ** 1300, bottom, top):
                with self.subTest(top=top, bottom=bottom, part=part):
                    self.check_bool((part, bottom), math.gcd(part, bottom) == 1)
                    self.check_bool((top, part), part >= 1 and math.gcd(top, part) == 1)

    def test_denominator_of_zero_or_below(self):
        for top in (*SMALL, *LONG, *HUGE):
            for bottom in (0, -1, -2, -7, -10 ** 29, -2 ** 1300):
                with self.subTest(top=top, bottom=bottom):
                    self.check_bool((top, bottom), False)

    def test_other_sizes(self):
        for top, bottom in self.fractions():
            with self.subTest(top=top, bottom=bottom):
                self.check_bool((top,), False)
                self.check_bool((top, bottom, 1), False)
                self.check_bool((top, bottom, top, bottom), False)
                self.check_bool(((top, bottom),), False)
                self.check_bool(top, False)
        self.check_bool((), False)

    def test_lists_and_dicts(self):
        for top, bottom in self.fractions():
            with self.subTest(top=top, bottom=bottom):
                self.check_bool([top, bottom], False)
                self.check_bool({"numerator": top, "denominator": bottom}, False)

    def test_bool_as_a_part(self):
        for flag in (True, False):
            for part in (0, 1, 2, -1, 10 ** 29, True, False):
                with self.subTest(flag=flag, part=part):
                    self.check_bool((flag, part), False)
                    self.check_bool((part, flag), False)

    def test_parts_of_all_kinds(self):
        for value in any_values():
            plain = type(value) is int
            with self.subTest(value=value):
                self.check_bool((value, 1), plain)
                self.check_bool((1, value), plain and value >= 1)

    def test_values_of_all_kinds(self):
        for value in any_values():
            with self.subTest(value=value):
                self.check_bool(value, False)


class TestMakeFraction(FractionCase):
    def integers(self):
        return (*SMALL, *LONG, *[-value for value in LONG])

    def check_made(self, top, bottom):
        made = make_fraction(top, bottom)
        self.check_equal(made, top, bottom)
        self.assertIs(is_fraction(made), True)
        self.assertEqual(make_fraction(top, bottom), made)

    def test_example(self):
        self.assertEqual(repr(make_fraction(6, -4)), "(-3, 2)")

    def test_pairs_of_any_sign_and_size(self):
        for top in self.integers():
            for bottom in self.integers():
                if bottom != 0:
                    with self.subTest(top=top, bottom=bottom):
                        self.check_made(top, bottom)

    def test_multiples_of_each_other(self):
        for factor in (1, -1, 2, -3, 12, 999999999, -(10 ** 14)):
            for value in (1, -2, 7, 10 ** 15, -(10 ** 15 - 1)):
                with self.subTest(factor=factor, value=value):
                    self.assertEqual(make_fraction(value * factor, value), (factor, 1))
                    self.check_made(value, value * factor)

    def test_zero_as_numerator(self):
        for bottom in self.integers():
            if bottom != 0:
                with self.subTest(bottom=bottom):
                    self.assertEqual(make_fraction(0, bottom), (0, 1))

    def test_equal_values_give_equal_fractions(self):
        for top, bottom in small_fractions() + [(10 ** 14 - 1, 10 ** 14), (-(3 ** 31), 2 ** 49)]:
            for factor in (1, -1, 2, -2, 9, -10 ** 14, 3 ** 32):
                with self.subTest(top=top, bottom=bottom, factor=factor):
                    self.assertEqual(make_fraction(top * factor, bottom * factor), (top, bottom))

    def test_different_values_give_different_fractions(self):
        for top, other in itertools.combinations(LONG, 2):
            with self.subTest(top=top, other=other):
                self.assertNotEqual(make_fraction(top, 7), make_fraction(other, 7))

    def test_somewhat_beyond_the_limit(self):
        for top in HUGE:
            for bottom in HUGE:
                with self.subTest(top=top, bottom=bottom):
                    self.check_made(-top, bottom)

    def test_zero_denominator(self):
        for top in self.integers():
            with self.subTest(top=top):
                with self.assertRaises(ZeroDenominator):
                    make_fraction(top, 0)


class TestArithmetic(FractionCase):
    def check_pair(self, one, other):
        (a, b), (c, d) = one, other
        self.check_equal(add_fractions(one, other), a * d + c * b, b * d)
        self.check_equal(subtract_fractions(one, other), a * d - c * b, b * d)
        self.check_equal(multiply_fractions(one, other), a * c, b * d)
        self.assertEqual((one, other), ((a, b), (c, d)))

    def test_example(self):
        shown = repr((
            add_fractions((1, 2), (1, 3)),
            subtract_fractions((1, 2), (1, 3)),
            multiply_fractions((1, 2), (2, 3)),
        ))
        self.assertEqual(shown, "((5, 6), (1, 6), (1, 3))")

    def test_small_pairs(self):
        for one, other in itertools.product(small_fractions(), repeat=2):
            with self.subTest(one=one, other=other):
                self.check_pair(one, other)

    def test_mixed_pairs(self):
        for one, other in itertools.product(mixed_fractions(), repeat=2):
            with self.subTest(one=one, other=other):
                self.check_pair(one, other)

    def test_drawn_pairs(self):
        for one, other in zip(drawn_fractions(6, 150), drawn_fractions(7, 150)):
            with self.subTest(one=one, other=other):
                self.check_pair(one, other)

    def test_equal_and_opposite_fractions(self):
        for value in mixed_fractions():
            top, bottom = value
            opposite = (-top, bottom)
            with self.subTest(value=value):
                self.assertEqual(subtract_fractions(value, value), (0, 1))
                self.assertEqual(add_fractions(value, opposite), (0, 1))
                self.assertEqual(add_fractions(value, value), multiply_fractions((2, 1), value))
                self.assertEqual(multiply_fractions((-1, 1), value), opposite)
                if top > 0:
                    self.assertEqual(multiply_fractions(value, (bottom, top)), (1, 1))

    def test_zero_and_one(self):
        for value in mixed_fractions():
            with self.subTest(value=value):
                self.assertEqual(add_fractions(value, (0, 1)), value)
                self.assertEqual(add_fractions((0, 1), value), value)
                self.assertEqual(subtract_fractions(value, (0, 1)), value)
                self.assertEqual(subtract_fractions((0, 1), value), (-value[0], value[1]))
                self.assertEqual(multiply_fractions(value, (0, 1)), (0, 1))
                self.assertEqual(multiply_fractions((0, 1), value), (0, 1))
                self.assertEqual(multiply_fractions(value, (1, 1)), value)

    def test_order_does_not_matter(self):
        for one, other in itertools.combinations(mixed_fractions(), 2):
            with self.subTest(one=one, other=other):
                self.assertEqual(add_fractions(one, other), add_fractions(other, one))
                self.assertEqual(multiply_fractions(one, other), multiply_fractions(other, one))

    def test_grouping_does_not_matter(self):
        for a, b, c in itertools.product(mixed_fractions()[::4], repeat=3):
            with self.subTest(a=a, b=b, c=c):
                for operate in (add_fractions, multiply_fractions):
                    self.assertEqual(operate(operate(a, b), c), operate(a, operate(b, c)))

    def test_subtracting_undoes_adding(self):
        for one, other in itertools.product(mixed_fractions(), repeat=2):
            with self.subTest(one=one, other=other):
                self.assertEqual(subtract_fractions(add_fractions(one, other), other), one)
                self.assertEqual(add_fractions(subtract_fractions(one, other), other), one)

    def test_same_call_same_result(self):
        for operate in (add_fractions, subtract_fractions, multiply_fractions, compare_fractions):
            for one, other in itertools.combinations(mixed_fractions()[::5], 2):
                with self.subTest(operate=operate.__name__, one=one, other=other):
                    self.assertEqual(operate(one, other), operate(one, other))


class TestCompare(FractionCase):
    def check_pair(self, one, other):
        left, right = one[0] * other[1], other[0] * one[1]
        expected = (left > right) - (left < right)
        found = compare_fractions(one, other)
        self.assertIs(type(found), int)
        self.assertEqual(found, expected)
        self.assertEqual(compare_fractions(other, one), -expected)
        self.assertEqual(found == 0, one == other)

    def test_example(self):
        self.assertEqual(repr(compare_fractions((1, 2), (2, 3))), "-1")

    def test_small_pairs(self):
        for one, other in itertools.product(small_fractions(), repeat=2):
            with self.subTest(one=one, other=other):
                self.check_pair(one, other)

    def test_mixed_pairs(self):
        for one, other in itertools.product(mixed_fractions(), repeat=2):
            with self.subTest(one=one, other=other):
                self.check_pair(one, other)

    def test_drawn_pairs(self):
        for one, other in zip(drawn_fractions(8, 300), drawn_fractions(9, 300)):
            with self.subTest(one=one, other=other):
                self.check_pair(one, other)

    def test_close_neighbours(self):
        for k in (1, 2, 10 ** 9, 10 ** 200, 10 ** 399):
            with self.subTest(k=k):
                self.assertEqual(compare_fractions((k, k + 1), (k + 1, k + 2)), -1)
                self.assertEqual(compare_fractions((-k, k + 1), (-k - 1, k + 2)), 1)

    def test_equal_and_opposite_fractions(self):
        for top, bottom in mixed_fractions():
            with self.subTest(top=top, bottom=bottom):
                self.assertEqual(compare_fractions((top, bottom), (top, bottom)), 0)
                sign = (top > 0) - (top < 0)
                self.assertEqual(compare_fractions((top, bottom), (-top, bottom)), sign)
                self.assertEqual(compare_fractions((top, bottom), (0, 1)), sign)

    def test_agrees_with_the_sign_of_the_difference(self):
        for one, other in itertools.product(mixed_fractions()[::3], repeat=2):
            top = subtract_fractions(one, other)[0]
            with self.subTest(one=one, other=other):
                self.assertEqual(compare_fractions(one, other), (top > 0) - (top < 0))


class TestInterface(unittest.TestCase):
    def test_each_function_is_defined_in_this_module(self):
        for name in (
            "is_fraction", "make_fraction", "add_fractions",
            "subtract_fractions", "multiply_fractions", "compare_fractions",
        ):
            with self.subTest(name=name):
                self.assertEqual(getattr(fractions, name).__module__, "poolmarks.fractions")


if __name__ == "__main__":
    unittest.main()
