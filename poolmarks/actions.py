"""Actions: tuples (name, ...) of the name of a change of a panel and its arguments, which are any values."""

from poolmarks.bounds import BATCH, ITEMS
from poolmarks.changes import without_item
from poolmarks.errors import Full, InvalidBatch, InvalidMark, InvalidWeight, NoSuchItem, NoSuchRule
from poolmarks.growth import with_mark
from poolmarks.panels import is_index, is_mark, is_weight
from poolmarks.rules import with_rule, without_rule


def check_item(panel, item):
    """Raise NoSuchItem unless any value is the index of an item."""
    if not is_index(item, len(panel[0])):
        raise NoSuchItem(item)


def check_mark(mark):
    """Raise InvalidMark unless any value is a mark."""
    if not is_mark(mark):
        raise InvalidMark(mark)


def check_weight(weight):
    """Raise InvalidWeight unless any value is a weight."""
    if not is_weight(weight):
        raise InvalidWeight(weight)


def change_mark(panel, item, mark):
    """Return the panel with another mark at the item."""
    check_item(panel, item)
    check_mark(mark)
    return with_mark(panel, item, mark, panel[0][item][1])


def change_weight(panel, item, weight):
    """Return the panel with another weight at the item."""
    check_item(panel, item)
    check_weight(weight)
    return with_mark(panel, item, panel[0][item][0], weight)


def append_item(panel, mark, weight):
    """Return the panel with a further item at the end."""
    check_mark(mark)
    check_weight(weight)
    items, rules = panel
    if len(items) >= ITEMS:
        raise Full()
    return ((*items, (mark, weight)), rules)


def remove_item(panel, item):
    """Return the panel without the item and its rules."""
    check_item(panel, item)
    return without_item(panel, item)


def append_rule(panel, low, high):
    """Return the panel with a further rule at the end."""
    check_item(panel, low)
    check_item(panel, high)
    if high == low:
        raise NoSuchItem(high)
    return with_rule(panel, low, high)


def remove_rule(panel, rule):
    """Return the panel without the rule."""
    if not is_index(rule, len(panel[1])):
        raise NoSuchRule(rule)
    return without_rule(panel, rule)


CHANGES = {
    "set_mark": change_mark,
    "set_weight": change_weight,
    "add_item": append_item,
    "drop_item": remove_item,
    "add_rule": append_rule,
    "drop_rule": remove_rule,
}

# How many arguments each action takes.
SIZES = {"set_mark": 2, "set_weight": 2, "add_item": 2, "drop_item": 1, "add_rule": 2, "drop_rule": 1}


def apply_action(panel, action):
    """Return the panel after an action, which has as many arguments as it takes."""
    name, *arguments = action
    change = CHANGES[name]
    return change(panel, *arguments)


def is_action(value):
    """Return whether any value is a tuple of the name of an action and as many arguments as it takes."""
    if not isinstance(value, tuple) or len(value) == 0 or not isinstance(value[0], str):
        return False
    return value[0] in SIZES and len(value) == SIZES[value[0]] + 1


def read_batch(value):
    """Return the tuple of the actions of any value that is a batch."""
    if not isinstance(value, (list, tuple)) or len(value) > BATCH:
        raise InvalidBatch()
    if not all([is_action(part) for part in value]):
        raise InvalidBatch()
    return tuple(value)
