"""Groups: ascending tuples of item indexes, and those that rules do not lead out of."""

from poolmarks.panels import is_index


def is_group(panel, value):
    """Return whether any value is a group of the panel."""
    if not isinstance(value, tuple):
        return False
    least = 0
    for item in value:
        if not is_index(item, len(panel[0])) or item < least:
            return False
        least = item + 1
    return True


def is_closed(rules, group):
    """Return whether the group contains the high of each rule whose low it contains."""
    for low, high in rules:
        if low in group and high not in group:
            return False
    return True


def turned_rules(panel):
    """Return the rules with low and high exchanged, for which downward is upward."""
    return [(high, low) for low, high in panel[1]]


def is_upward(panel, value):
    """Return whether any value is an upward closed group of the panel."""
    return is_group(panel, value) and is_closed(panel[1], value)


def is_downward(panel, value):
    """Return whether any value is a downward closed group of the panel."""
    return is_group(panel, value) and is_closed(turned_rules(panel), value)


def closed_groups(items, rules):
    """Return the list of all groups of these ascending items that are upward closed for the rules."""
    groups = [()]
    for item in items:
        longer = [(*group, item) for group in groups]
        groups = groups + longer
    return [group for group in groups if is_closed(rules, group)]


def upward_sets(panel):
    """Return the ascending tuple of all upward closed groups."""
    items = list(range(len(panel[0])))
    return tuple(sorted(closed_groups(items, panel[1])))


def reached_items(rules, item):
    """Return the group of the item and all items that rules lead to from it."""
    reached = [item]
    # The list grows at its end, so each item that is added gets its turn.
    at = 0
    while at < len(reached):
        for low, high in rules:
            if low == reached[at] and high not in reached:
                reached.append(high)
        at += 1
    return tuple(sorted(reached))


def items_above(panel, item):
    """Return the smallest upward closed group that contains the item."""
    return reached_items(panel[1], item)


def items_below(panel, item):
    """Return the smallest downward closed group that contains the item."""
    return reached_items(turned_rules(panel), item)
