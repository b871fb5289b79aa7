"""Ratings: tuples with one fraction for each item of a panel."""

from poolmarks.fractions import add_fractions, are_fractions, compare_fractions
from poolmarks.fractions import multiply_fractions, subtract_fractions
from poolmarks.groups import upward_sets
from poolmarks.panels import average_of, sums_of


def obeys_rules(panel, value):
    """Return whether any value is a rating of the panel that obeys the rules."""
    if not are_fractions(value, len(panel[0])):
        return False
    for low, high in panel[1]:
        if compare_fractions(value[low], value[high]) > 0:
            return False
    return True


def cost_of(panel, rating):
    """Return the sum of weight * (rating - mark) ** 2 over all items."""
    cost = (0, 1)
    for (mark, weight), fraction in zip(panel[0], rating):
        distance = subtract_fractions(fraction, (mark, 1))
        square = multiply_fractions(distance, distance)
        cost = add_fractions(cost, multiply_fractions((weight, 1), square))
    return cost


def highest_group(panel, groups):
    """Return, of one or more groups that are not empty, the largest one with the greatest average."""
    best = groups[0]
    best_total, best_weights = sums_of(panel, best)
    for group in groups:
        total, weights = sums_of(panel, group)
        # Weights are positive, so this has the sign of the difference of the averages.
        lead = total * best_weights - best_total * weights
        if lead > 0 or lead == 0 and len(group) > len(best):
            best, best_total, best_weights = group, total, weights
    return best


def groups_beyond(groups, top):
    """Return what each group that contains top and more items has besides top."""
    found = []
    for group in groups:
        others = tuple([item for item in group if item not in top])
        if len(others) > 0 and len(group) == len(others) + len(top):
            found.append(others)
    return found


def level_groups(panel):
    """Return the levels (value, group) of the best rating, values increasing."""
    # No upward closed group has a greater average than the highest level. The union of
    # two groups with this average has it too, so the largest one is the whole level.
    # When its items are left out, the same holds for the next level.
    groups = [group for group in upward_sets(panel) if len(group) > 0]
    levels = []
    while len(groups) > 0:
        top = highest_group(panel, groups)
        levels.append((average_of(panel, top), top))
        groups = groups_beyond(groups, top)
    return tuple(reversed(levels))


def best_rating(panel):
    """Return the rating with the least cost of all ratings that obey the rules."""
    values = {}
    for value, group in level_groups(panel):
        for item in group:
            values[item] = value
    return tuple([values[item] for item in range(len(panel[0]))])
