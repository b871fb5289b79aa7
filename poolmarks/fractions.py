"""Exact fractions: tuples (numerator, denominator) in lowest terms."""

from poolmarks.errors import ZeroDenominator


def is_plain_integer(value):
    """Return whether any value is an integer of the package."""
    # Python counts True and False among the integers, the package does not.
    return isinstance(value, int) and not isinstance(value, bool)


def common_divisor(one, other):
    """Return the greatest integer that divides both integers, 0 if both are 0."""
    one, other = abs(one), abs(other)
    while other != 0:
        one, other = other, one % other
    return one


def is_fraction(value):
    """Return whether any value is a fraction."""
    if not isinstance(value, tuple) or len(value) != 2:
        return False
    numerator, denominator = value
    if not is_plain_integer(numerator) or not is_plain_integer(denominator):
        return False
    return denominator >= 1 and common_divisor(numerator, denominator) == 1


def are_fractions(value, size):
    """Return whether any value is a tuple of this many fractions."""
    if not isinstance(value, tuple) or len(value) != size:
        return False
    return all([is_fraction(part) for part in value])


def make_fraction(numerator, denominator):
    """Return the fraction for numerator / denominator."""
    if denominator == 0:
        raise ZeroDenominator()
    divisor = common_divisor(numerator, denominator)
    if denominator < 0:
        # Dividing by a negative number moves the sign to the numerator.
        divisor = -divisor
    return (numerator // divisor, denominator // divisor)


def add_fractions(one, other):
    """Return one plus other."""
    return make_fraction(one[0] * other[1] + other[0] * one[1], one[1] * other[1])


def subtract_fractions(one, other):
    """Return one minus other."""
    return make_fraction(one[0] * other[1] - other[0] * one[1], one[1] * other[1])


def multiply_fractions(one, other):
    """Return one times other."""
    return make_fraction(one[0] * other[0], one[1] * other[1])


def compare_fractions(one, other):
    """Return -1, 0 or 1 if one is less than, equal to or greater than other."""
    # Denominators are positive, so multiplying by them keeps the order.
    left = one[0] * other[1]
    right = other[0] * one[1]
    if left < right:
        return -1
    if left > right:
        return 1
    return 0
