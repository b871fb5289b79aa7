"""Judgements: evidence that a rating is the best one, or that it is not."""

from poolmarks.amounts import find_amounts, supports_rating
from poolmarks.fractions import compare_fractions, make_fraction, subtract_fractions
from poolmarks.groups import is_group, turned_rules
from poolmarks.ratings import best_rating


def can_move(rules, rating, group):
    """Return whether no rule keeps the group from moving to the side to which the rules lead."""
    for low, high in rules:
        if low in group and high not in group and rating[low] == rating[high]:
            return False
    return True


def group_force(panel, rating, group, side):
    """Return the force on a group that is not empty, or None if it cannot move to that side."""
    rules = panel[1] if side == "up" else turned_rules(panel)
    if not can_move(rules, rating, group):
        return None
    total = 0
    unit = 1
    for item in group:
        mark, weight = panel[0][item]
        numerator, denominator = rating[item]
        # The terms are brought to one denominator as they are; only their sum is reduced.
        total = total * denominator + weight * (mark * denominator - numerator) * unit
        unit *= denominator
    return make_fraction(total if side == "up" else -total, unit)


def extreme_group(values, sign):
    """Return the greatest fraction for sign 1, the least one for sign -1, and the group of all items that have it."""
    best = values[0]
    for value in values:
        if compare_fractions(value, best) == sign:
            best = value
    return (best, tuple([item for item, value in enumerate(values) if value == best]))


def drawn_group(panel, rating):
    """Return a group and the side to which it is drawn, for a rating that is not the best one."""
    # Let D be the greatest distance that an item lies below its best rating, and let D be
    # positive. The items at distance D can move up: the best rating obeys the rules, so an
    # item that an equally rated one of them leads to lies at least as far below. Amounts
    # that support the best rating bring nothing to these items from others, so that the
    # sum of weight * (mark - best rating) over them is at least 0, and their force is at
    # least D times their weight. If no item lies below its best rating, the same holds
    # downward for the items that lie farthest above it.
    gaps = [subtract_fractions(best, value) for best, value in zip(best_rating(panel), rating)]
    gap, group = extreme_group(gaps, 1)
    if gap[0] > 0:
        return (group, "up")
    return (extreme_group(gaps, -1)[1], "down")


def judge_rating(panel, rating):
    """Return ("best", amounts) or ("drawn", group, side) for a rating that obeys the rules."""
    amounts = find_amounts(panel, rating)
    if amounts is not None:
        return ("best", amounts)
    group, side = drawn_group(panel, rating)
    return ("drawn", group, side)


def is_drawn(panel, rating, group, side):
    """Return whether any two values are a group that is not empty and a side to which it is drawn."""
    if not is_group(panel, group) or len(group) == 0 or side not in ("up", "down"):
        return False
    force = group_force(panel, rating, group, side)
    return force is not None and force[0] > 0


def check_judgement(panel, rating, value):
    """Return whether any value is a right judgement of a rating that obeys the rules."""
    if not isinstance(value, tuple):
        return False
    if len(value) == 2 and value[0] == "best":
        return supports_rating(panel, rating, value[1])
    if len(value) == 3 and value[0] == "drawn":
        return is_drawn(panel, rating, value[1], value[2])
    return False
