"""Witnesses: two groups that limit the rating of an item from below and from above by averages."""

from poolmarks.fractions import compare_fractions, is_fraction
from poolmarks.groups import closed_groups, is_downward, is_upward, turned_rules
from poolmarks.panels import average_of
from poolmarks.ratings import best_rating


def find_witnesses(panel, item):
    """Return (value, up, down): the best rating of the item, the items not below it and those not above it."""
    rating = best_rating(panel)
    signs = [compare_fractions(value, rating[item]) for value in rating]
    up = tuple([other for other, sign in enumerate(signs) if sign >= 0])
    down = tuple([other for other, sign in enumerate(signs) if sign <= 0])
    return (rating[item], up, down)


def common_averages(panel, item, group, rules):
    """Return the averages of what the group has in common with each group that is closed for the rules.

    Only groups that contain the item count, and this group does, too.
    """
    averages = []
    for closed in closed_groups(list(range(len(panel[0]))), rules):
        if item in closed:
            averages.append(average_of(panel, [other for other in group if other in closed]))
    return averages


def check_witnesses(panel, item, value):
    """Return whether any value is witnesses of the item."""
    if not isinstance(value, tuple) or len(value) != 3 or not is_fraction(value[0]):
        return False
    limit, up, down = value
    if not is_upward(panel, up) or item not in up or not is_downward(panel, down) or item not in down:
        return False
    lower = common_averages(panel, item, up, turned_rules(panel))
    upper = common_averages(panel, item, down, panel[1])
    if not all([compare_fractions(average, limit) >= 0 for average in lower]):
        return False
    return all([compare_fractions(average, limit) <= 0 for average in upper])
