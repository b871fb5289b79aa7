"""Panels: tuples (items, rules) of items (mark, weight) and rules (low, high)."""

from poolmarks.bounds import ITEMS, MARK, RULES, WEIGHT
from poolmarks.fractions import is_plain_integer, make_fraction


def is_mark(value):
    """Return whether any value is a mark."""
    return is_plain_integer(value) and -MARK <= value <= MARK


def is_weight(value):
    """Return whether any value is a weight."""
    return is_plain_integer(value) and 1 <= value <= WEIGHT


def is_index(value, size):
    """Return whether any value is an index of a sequence of this size."""
    return is_plain_integer(value) and 0 <= value < size


def is_pair(value):
    """Return whether any value is a tuple of two parts."""
    return isinstance(value, tuple) and len(value) == 2


def item_fault(at, value):
    """Return the first fault of any value as the item at this index, or None."""
    if not is_pair(value):
        return ((0, at), "item")
    mark, weight = value
    if not is_mark(mark):
        return ((0, at, 0), "mark")
    if not is_weight(weight):
        return ((0, at, 1), "weight")
    return None


def rule_fault(at, value, size):
    """Return the first fault of any value as the rule at this index between size items, or None."""
    if not is_pair(value):
        return ((1, at), "rule")
    low, high = value
    if not is_index(low, size):
        return ((1, at, 0), "low")
    if not is_index(high, size) or high == low:
        return ((1, at, 1), "high")
    return None


def find_fault(value):
    """Return (path, reason) of the first fault of any value as a panel, or None."""
    if not is_pair(value):
        return ((), "panel")
    items, rules = value
    if not isinstance(items, tuple) or not 1 <= len(items) <= ITEMS:
        return ((0,), "items")
    if not isinstance(rules, tuple) or len(rules) > RULES:
        return ((1,), "rules")
    faults = [item_fault(at, item) for at, item in enumerate(items)]
    faults += [rule_fault(at, rule, len(items)) for at, rule in enumerate(rules)]
    for fault in faults:
        if fault is not None:
            return fault
    return None


def sums_of(panel, group):
    """Return the sum of weight * mark and the sum of the weights over the group."""
    total = 0
    weights = 0
    for item in group:
        mark, weight = panel[0][item]
        total += weight * mark
        weights += weight
    return (total, weights)


def average_of(panel, group):
    """Return the weighted average of the marks of a group that is not empty."""
    total, weights = sums_of(panel, group)
    return make_fraction(total, weights)
