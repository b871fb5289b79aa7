"""Changes: panels and ratings that are made from others."""

from poolmarks.bounds import ITEMS, RULES
from poolmarks.errors import Full, LastItem, OutOfRange
from poolmarks.fractions import compare_fractions
from poolmarks.panels import is_mark, is_weight


def reverse_panel(panel):
    """Return the panel with negated marks, and with low and high exchanged in each rule."""
    items, rules = panel
    negated = tuple([(-mark, weight) for mark, weight in items])
    return (negated, tuple([(high, low) for low, high in rules]))


def reverse_rating(rating):
    """Return the rating with each fraction negated."""
    return tuple([(-numerator, denominator) for numerator, denominator in rating])


def with_items(panel, items):
    """Return the panel with these items instead of its own if their marks and weights are valid."""
    for mark, weight in items:
        if not is_mark(mark) or not is_weight(weight):
            raise OutOfRange()
    return (tuple(items), panel[1])


def shift_panel(panel, amount):
    """Return the panel with the amount added to all marks."""
    return with_items(panel, [(mark + amount, weight) for mark, weight in panel[0]])


def scale_panel(panel, factor):
    """Return the panel with all marks multiplied by the factor."""
    return with_items(panel, [(mark * factor, weight) for mark, weight in panel[0]])


def weigh_panel(panel, factor):
    """Return the panel with all weights multiplied by the factor."""
    return with_items(panel, [(mark, weight * factor) for mark, weight in panel[0]])


def renamed_rules(rules, names):
    """Return the rules between items that have a new index in names, with these indexes."""
    return tuple([(names[low], names[high]) for low, high in rules if low in names and high in names])


def combine_panels(one, other):
    """Return the panel with the items and the rules of one, then those of other."""
    items = one[0] + other[0]
    names = {item: len(one[0]) + item for item in range(len(other[0]))}
    rules = one[1] + renamed_rules(other[1], names)
    if len(items) > ITEMS or len(rules) > RULES:
        raise Full()
    return (items, rules)


def chosen_items(panel, order):
    """Return the panel of the items in this order, with the rules between them."""
    items, rules = panel
    names = {item: at for at, item in enumerate(order)}
    return (tuple([items[item] for item in order]), renamed_rules(rules, names))


def relabel_panel(panel, order):
    """Return the panel whose item k is item order[k] of this panel."""
    return chosen_items(panel, order)


def without_item(panel, item):
    """Return the panel without the item and without its rules."""
    size = len(panel[0])
    if size == 1:
        raise LastItem()
    return chosen_items(panel, [other for other in range(size) if other != item])


def clip_fraction(fraction, low, high):
    """Return the fraction from low to high that is nearest to this one."""
    if compare_fractions(fraction, low) < 0:
        return low
    if compare_fractions(fraction, high) > 0:
        return high
    return fraction


def clip_rating(rating, low, high):
    """Return the rating with low for lesser fractions and high for greater ones."""
    return tuple([clip_fraction(fraction, low, high) for fraction in rating])
