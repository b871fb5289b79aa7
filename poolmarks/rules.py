"""Rules: adding and removing them, and what each of them matters."""

from poolmarks.bounds import RULES
from poolmarks.errors import Full
from poolmarks.flows import amount_limits, inner_rules, level_needs
from poolmarks.fractions import make_fraction
from poolmarks.ratings import best_rating, level_groups


def with_rule(panel, low, high):
    """Return the panel with a further rule at the end."""
    items, rules = panel
    if len(rules) >= RULES:
        raise Full()
    return (items, (*rules, (low, high)))


def without_rule(panel, rule):
    """Return the panel without the rule at this index."""
    items, rules = panel
    return (items, rules[:rule] + rules[rule + 1:])


def amount_range(panel, rule):
    """Return the least and the greatest amount of the rule that supporting amounts have."""
    for level in level_groups(panel):
        value, group = level
        inside = inner_rules(panel, group)
        if rule in inside:
            others = [panel[1][other] for other in inside if other != rule]
            least, greatest = amount_limits(level_needs(panel, level), panel[1][rule], others)
            most = None if greatest is None else make_fraction(greatest, value[1])
            return (make_fraction(least, value[1]), most)
    # The rule leads from one level to another, where supporting amounts are 0.
    return ((0, 1), (0, 1))


def idle_rules(panel):
    """Return the ascending tuple of the rules that can be removed without a change of the best rating."""
    best = best_rating(panel)
    rules = list(range(len(panel[1])))
    return tuple([rule for rule in rules if best_rating(without_rule(panel, rule)) == best])
