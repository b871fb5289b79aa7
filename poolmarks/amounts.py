"""Amounts: tuples with one fraction for each rule, the evidence for a rating."""

from poolmarks.flows import amount_limits, inner_rules, level_needs
from poolmarks.fractions import add_fractions, are_fractions, make_fraction
from poolmarks.fractions import multiply_fractions, subtract_fractions
from poolmarks.ratings import best_rating, level_groups, obeys_rules


def outflow_of(panel, amounts, item):
    """Return what the rules carry away from the item minus what they bring to it."""
    outflow = (0, 1)
    for (low, high), amount in zip(panel[1], amounts):
        if low == item:
            outflow = add_fractions(outflow, amount)
        if high == item:
            outflow = subtract_fractions(outflow, amount)
    return outflow


def rating_of_amounts(panel, amounts):
    """Return the rating that has at each item mark - outflow / weight."""
    rating = []
    for item, (mark, weight) in enumerate(panel[0]):
        change = multiply_fractions(outflow_of(panel, amounts, item), (1, weight))
        rating.append(subtract_fractions((mark, 1), change))
    return tuple(rating)


def supports_rating(panel, rating, value):
    """Return whether any value is amounts that support the rating."""
    if not are_fractions(value, len(panel[1])) or not obeys_rules(panel, rating):
        return False
    for (low, high), (numerator, denominator) in zip(panel[1], value):
        if numerator < 0 or numerator > 0 and rating[low] != rating[high]:
            return False
    return rating_of_amounts(panel, value) == rating


def level_amounts(panel, level):
    """Return amounts of the rules inside a level (value, group) of the best rating, by their indexes."""
    value, group = level
    needs = level_needs(panel, level)
    rules = inner_rules(panel, group)
    amounts = {}
    for at, rule in enumerate(rules):
        # Each rule carries as little as the rules behind it allow, so that they can carry the rest.
        low, high = panel[1][rule]
        others = [panel[1][later] for later in rules[at + 1:]]
        least = amount_limits(needs, (low, high), others)[0]
        needs[low] -= least
        needs[high] += least
        amounts[rule] = make_fraction(least, value[1])
    return amounts


def find_amounts(panel, rating):
    """Return amounts that support the rating, or None if there are none."""
    if rating != best_rating(panel):
        return None
    amounts = {}
    for level in level_groups(panel):
        amounts.update(level_amounts(panel, level))
    return tuple([amounts.get(rule, (0, 1)) for rule in range(len(panel[1]))])
