"""Other ways to the results of the package, by Python's own fractions and plain searches.

Nothing here uses the package.
"""

import itertools
from fractions import Fraction


def number(fraction):
    """Return the number that a fraction of the package stands for."""
    return Fraction(*fraction)


def numbers(fractions):
    return [Fraction(*fraction) for fraction in fractions]


def told(value):
    """Return the package's fraction for a number."""
    return (value.numerator, value.denominator)


def all_groups(panel):
    """Return every group of the panel, in ascending order."""
    items = range(len(panel[0]))
    return sorted(group for size in range(len(items) + 1) for group in itertools.combinations(items, size))


def goes_up(panel, group):
    return all(high in group for low, high in panel[1] if low in group)


def goes_down(panel, group):
    return all(low in group for low, high in panel[1] if high in group)


def upward_groups(panel):
    return [group for group in all_groups(panel) if goes_up(panel, group)]


def downward_groups(panel):
    return [group for group in all_groups(panel) if goes_down(panel, group)]


def average(panel, group):
    items = [panel[0][item] for item in group]
    return Fraction(sum(mark * weight for mark, weight in items), sum(weight for mark, weight in items))


def surplus(panel, group, threshold):
    """Return the surplus for a threshold that is a number."""
    return sum((panel[0][item][1] * (panel[0][item][0] - threshold) for item in group), Fraction(0))


def cost(panel, values):
    """Return the cost of a rating that is given as numbers."""
    return sum((weight * (value - mark) ** 2 for (mark, weight), value in zip(panel[0], values)), Fraction(0))


def obeys(panel, values):
    return all(values[low] <= values[high] for low, high in panel[1])


def rating_by_averages(panel):
    """Return the best rating by guarantee (b): the averages of closed groups limit each item."""
    ups = upward_groups(panel)
    downs = downward_groups(panel)
    known = {}

    def average_in_common(up, down):
        common = tuple(item for item in up if item in down)
        if common not in known:
            known[common] = average(panel, common)
        return known[common]

    return [
        max(min(average_in_common(up, down) for down in downs if item in down) for up in ups if item in up)
        for item in range(len(panel[0]))
    ]


def can_carry(needs, rules):
    """Return whether amounts of at least 0 at the rules give each item this outflow.

    needs has a number for each item. Surpluses are sent along shortest paths
    to items that lack something until nothing more can be sent.
    """
    if sum(needs) != 0:
        return False
    left = list(needs)
    carried = [Fraction(0)] * len(rules)
    while any(need > 0 for need in left):
        path = shortest_path(left, rules, carried)
        if path is None:
            return False
        start, end, steps = path
        limits = [carried[at] for at, sign in steps if sign < 0]
        sent = min([left[start], -left[end], *limits])
        left[start] -= sent
        left[end] += sent
        for at, sign in steps:
            carried[at] += sign * sent
    return True


def shortest_path(left, rules, carried):
    """Return (start, end, steps) from an item with too much to one with too little, or None."""
    found = {item: (item, []) for item, need in enumerate(left) if need > 0}
    queue = list(found)
    for item in queue:
        start, steps = found[item]
        if left[item] < 0:
            return start, item, steps
        for at, (low, high) in enumerate(rules):
            if low == item and high not in found:
                found[high] = (start, [*steps, (at, 1)])
                queue.append(high)
            if high == item and low not in found and carried[at] > 0:
                found[low] = (start, [*steps, (at, -1)])
                queue.append(low)
    return None


def needs_of(panel, values):
    """Return the outflows that lead from the marks to these numbers."""
    return [weight * (mark - value) for (mark, weight), value in zip(panel[0], values)]


def tight_rules(panel, values):
    return [(low, high) for low, high in panel[1] if values[low] == values[high]]


def is_best(panel, values):
    """Return whether these numbers are the best rating, by guarantee (a)."""
    return obeys(panel, values) and can_carry(needs_of(panel, values), tight_rules(panel, values))


def leads_to(rules, start, end):
    """Return whether rules lead from the item start to the item end."""
    seen = [start]
    for item in seen:
        seen += [high for low, high in rules if low == item and high not in seen]
    return end in seen
