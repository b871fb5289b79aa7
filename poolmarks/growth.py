"""Growth: other marks, and how far one mark must grow to move a rating."""

from poolmarks.fractions import make_fraction
from poolmarks.groups import upward_sets
from poolmarks.panels import sums_of


def with_mark(panel, item, mark, weight):
    """Return the panel with this mark and weight at the item."""
    items, rules = panel
    return (items[:item] + ((mark, weight),) + items[item + 1:], rules)


def best_surpluses(panel, item, watched, value):
    """Return the greatest surplus over the value of the upward closed groups of each kind.

    The kind tells whether a group contains watched and whether it contains
    item. The surpluses are multiplied by the denominator of the value.
    """
    numerator, denominator = value
    best = {}
    for group in upward_sets(panel):
        total, weights = sums_of(panel, group)
        surplus = total * denominator - weights * numerator
        kind = (watched in group, item in group)
        if kind not in best or surplus > best[kind]:
            best[kind] = surplus
    return best


def mark_to_reach(panel, item, watched, value):
    """Return ("always",), ("never",) or ("from", mark): when watched is rated at the value or above."""
    weight = panel[0][item][1]
    best = best_surpluses(with_mark(panel, item, 0, weight), item, watched, value)
    # Watched reaches the value if and only if one of the groups with the greatest surplus
    # contains it. A mark adds weight * mark to all groups that contain item.
    neither = best[(False, False)]
    both = best[(True, True)]
    watched_only = best.get((True, False))
    item_only = best.get((False, True))
    if watched_only is not None and watched_only >= neither:
        return ("always",)
    if item_only is not None and item_only > both:
        return ("never",)
    return ("from", make_fraction(neither - both, weight * value[1]))
