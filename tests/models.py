"""What the actions of a book do by the words of the document. Nothing here uses the package."""

import random

MARK = 10 ** 9
WEIGHT = 10 ** 6

# The name of each action and the places that its arguments fill.
ACTIONS = {
    "set_mark": ("item", "mark"),
    "set_weight": ("item", "weight"),
    "add_item": ("mark", "weight"),
    "drop_item": ("item",),
    "add_rule": ("low", "high"),
    "drop_rule": ("rule",),
}


def is_valid(panel, place, value):
    """Return whether any value can stand at the place of an argument."""
    sizes = {"item": len(panel[0]), "low": len(panel[0]), "high": len(panel[0]), "rule": len(panel[1])}
    if type(value) is not int:
        return False
    if place == "mark":
        return -MARK <= value <= MARK
    if place == "weight":
        return 1 <= value <= WEIGHT
    return 0 <= value < sizes[place]


ERRORS = {
    "item": "NoSuchItem", "low": "NoSuchItem", "high": "NoSuchItem", "rule": "NoSuchRule",
    "mark": "InvalidMark", "weight": "InvalidWeight",
}


def expected_error(panel, action):
    """Return (name of the error, fields) that an action raises, or None."""
    name, *arguments = action
    for place, value in zip(ACTIONS[name], arguments):
        if not is_valid(panel, place, value):
            return (ERRORS[place], (value,))
    if name == "add_rule" and arguments[0] == arguments[1]:
        return ("NoSuchItem", (arguments[1],))
    if name == "add_rule" and len(panel[1]) == 16 or name == "add_item" and len(panel[0]) == 8:
        return ("Full", ())
    if name == "drop_item" and len(panel[0]) == 1:
        return ("LastItem", ())
    return None


def expected_panel(panel, action):
    """Return the panel after an action that raises no error."""
    items, rules = [list(part) for part in panel]
    name, *arguments = action
    if name == "set_mark":
        items[arguments[0]] = (arguments[1], items[arguments[0]][1])
    elif name == "set_weight":
        items[arguments[0]] = (items[arguments[0]][0], arguments[1])
    elif name == "add_item":
        items.append(tuple(arguments))
    elif name == "drop_item":
        gone = arguments[0]
        del items[gone]
        rules = [tuple(end - (end > gone) for end in rule) for rule in rules if gone not in rule]
    elif name == "add_rule":
        rules.append(tuple(arguments))
    else:
        del rules[arguments[0]]
    return (tuple(items), tuple(rules))


def drawn_action(source, panel, others=()):
    """Return an action that is mostly valid; others are values that may take any place."""
    name = source.choice(sorted(ACTIONS))
    arguments = []
    for place in ACTIONS[name]:
        if others and source.random() < 0.15:
            arguments.append(source.choice(others))
        elif place == "mark":
            arguments.append(source.choice((source.randint(-9, 9), MARK, -MARK)))
        elif place == "weight":
            arguments.append(source.choice((source.randint(1, 5), WEIGHT)))
        else:
            size = len(panel[1]) if place == "rule" else len(panel[0])
            arguments.append(source.randrange(size + 1) if source.random() < 0.1 else source.randrange(max(size, 1)))
    return (name, *arguments)


def valid_actions(seed, panel, many):
    """Return this many actions that can follow each other, and the panels before and after each of them."""
    source = random.Random(seed)
    panels = [panel]
    actions = []
    while len(actions) < many:
        action = drawn_action(source, panels[-1])
        if expected_error(panels[-1], action) is None:
            actions.append(action)
            panels.append(expected_panel(panels[-1], action))
    return actions, panels


def perform(book, action):
    """Perform an action by the method of the book that has its name."""
    name, *arguments = action
    return getattr(book, name)(*arguments)
