"""Thresholds: the groups of items that are worth more than a fraction."""

from poolmarks.fractions import compare_fractions, make_fraction
from poolmarks.panels import sums_of
from poolmarks.ratings import best_rating


def surplus_of(panel, group, threshold):
    """Return the sum of weight * (mark - threshold) over the group."""
    numerator, denominator = threshold
    total, weights = sums_of(panel, group)
    return make_fraction(total * denominator - weights * numerator, denominator)


def top_sets(panel, threshold):
    """Return the smallest and the greatest upward closed group with the greatest surplus."""
    # Point 25 says which they are, so no search through the groups is needed.
    signs = [compare_fractions(value, threshold) for value in best_rating(panel)]
    above = tuple([item for item, sign in enumerate(signs) if sign > 0])
    not_below = tuple([item for item, sign in enumerate(signs) if sign >= 0])
    return (above, not_below)
