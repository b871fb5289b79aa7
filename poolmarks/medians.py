"""Medians: whole ratings, tuples with one integer for each item, with the least sum of absolute differences."""

from poolmarks.fractions import is_plain_integer
from poolmarks.groups import upward_sets


def spread_of(panel, whole):
    """Return the sum of weight * abs(rating - mark) over all items of a whole rating."""
    return sum([weight * abs(value - mark) for (mark, weight), value in zip(panel[0], whole)])


def gain_of(panel, group, threshold):
    """Return the weights in the group of the marks from the threshold on, minus those of the marks below it."""
    gain = 0
    for item in group:
        mark, weight = panel[0][item]
        gain += weight if mark >= threshold else -weight
    return gain


def best_groups(panel, threshold):
    """Return the upward closed groups with the greatest gain at the threshold."""
    groups = upward_sets(panel)
    gains = [gain_of(panel, group, threshold) for group in groups]
    most = max(gains)
    return [group for group, gain in zip(groups, gains) if gain == most]


def end_median(panel, highest):
    """Return the highest or the lowest median rating."""
    # The spread of a whole rating is a sum over all integers t: each t counts the weights of
    # the items of which either the mark or the rating, but not both, is at least t. It is
    # least if the items rated from t on are a group with the greatest gain at t. Of these
    # groups, one contains all others and one is contained in all others. Both shrink while
    # t grows, and only where t passes a mark. At the least mark, all items are the only one.
    whole = {}
    for threshold in sorted({mark for mark, weight in panel[0]}):
        groups = best_groups(panel, threshold)
        chosen = max(groups, key=len) if highest else min(groups, key=len)
        for item in chosen:
            whole[item] = threshold
    return tuple([whole[item] for item in range(len(panel[0]))])


def lowest_median(panel):
    """Return the median rating that no other one is below at any item."""
    return end_median(panel, False)


def highest_median(panel):
    """Return the median rating that no other one is above at any item."""
    return end_median(panel, True)


def least_spread(panel):
    """Return the least spread of all whole ratings that obey the rules."""
    return spread_of(panel, lowest_median(panel))


def is_whole(panel, value):
    """Return whether any value is a whole rating that obeys the rules."""
    if not isinstance(value, tuple) or len(value) != len(panel[0]):
        return False
    if not all([is_plain_integer(part) for part in value]):
        return False
    return all([value[low] <= value[high] for low, high in panel[1]])


def is_median(panel, value):
    """Return whether any value is a median rating."""
    return is_whole(panel, value) and spread_of(panel, value) == least_spread(panel)
