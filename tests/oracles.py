"""Other ways to the results of the package, by Python's own fractions and plain searches.

Nothing here uses the package.
"""

import itertools
import math
from fractions import Fraction


def number(fraction):
    """Return the number that a fraction of the package stands for."""
    return Fraction(*fraction)


def numbers(fractions):
    return [Fraction(*fraction) for fraction in fractions]


def told(value):
    """Return the package's fraction for a number."""
    return (value.numerator, value.denominator)


def are_fractions(value, size):
    """Return whether any value is a tuple of this many fractions by point 4."""
    if type(value) is not tuple or len(value) != size:
        return False
    for part in value:
        if type(part) is not tuple or [type(k) for k in part] != [int, int]:
            return False
        if part[1] < 1 or math.gcd(*part) != 1:
            return False
    return True


def all_groups(panel):
    """Return every group of the panel, in ascending order."""
    items = range(len(panel[0]))
    return sorted(group for size in range(len(items) + 1) for group in itertools.combinations(items, size))


def goes_up(panel, group):
    return all(high in group for low, high in panel[1] if low in group)


def goes_down(panel, group):
    return all(low in group for low, high in panel[1] if high in group)


def upward_groups(panel):
    return [group for group in all_groups(panel) if goes_up(panel, group)]


def downward_groups(panel):
    return [group for group in all_groups(panel) if goes_down(panel, group)]


def average(panel, group):
    items = [panel[0][item] for item in group]
    return Fraction(sum(mark * weight for mark, weight in items), sum(weight for mark, weight in items))


def surplus(panel, group, threshold):
    """Return the surplus for a threshold that is a number."""
    return sum((panel[0][item][1] * (panel[0][item][0] - threshold) for item in group), Fraction(0))


def cost(panel, values):
    """Return the cost of a rating that is given as numbers."""
    return sum((weight * (value - mark) ** 2 for (mark, weight), value in zip(panel[0], values)), Fraction(0))


def obeys(panel, values):
    return all(values[low] <= values[high] for low, high in panel[1])


def rating_by_averages(panel):
    """Return the best rating by guarantee (b): the averages of closed groups limit each item."""
    ups = upward_groups(panel)
    downs = downward_groups(panel)
    known = {}

    def average_in_common(up, down):
        common = tuple(item for item in up if item in down)
        if common not in known:
            known[common] = average(panel, common)
        return known[common]

    return [
        max(min(average_in_common(up, down) for down in downs if item in down) for up in ups if item in up)
        for item in range(len(panel[0]))
    ]


def can_carry(needs, rules):
    """Return whether amounts of at least 0 at the rules give each item this outflow.

    needs has a number for each item. Surpluses are sent along shortest paths
    to items that lack something until nothing more can be sent.
    """
    if sum(needs) != 0:
        return False
    left = list(needs)
    carried = [Fraction(0)] * len(rules)
    while any(need > 0 for need in left):
        path = shortest_path(left, rules, carried)
        if path is None:
            return False
        start, end, steps = path
        limits = [carried[at] for at, sign in steps if sign < 0]
        sent = min([left[start], -left[end], *limits])
        left[start] -= sent
        left[end] += sent
        for at, sign in steps:
            carried[at] += sign * sent
    return True


def shortest_path(left, rules, carried):
    """Return (start, end, steps) from an item with too much to one with too little, or None."""
    found = {item: (item, []) for item, need in enumerate(left) if need > 0}
    queue = list(found)
    for item in queue:
        start, steps = found[item]
        if left[item] < 0:
            return start, item, steps
        for at, (low, high) in enumerate(rules):
            if low == item and high not in found:
                found[high] = (start, [*steps, (at, 1)])
                queue.append(high)
            if high == item and low not in found and carried[at] > 0:
                found[low] = (start, [*steps, (at, -1)])
                queue.append(low)
    return None


def needs_of(panel, values):
    """Return the outflows that lead from the marks to these numbers."""
    return [weight * (mark - value) for (mark, weight), value in zip(panel[0], values)]


def tight_rules(panel, values):
    return [(low, high) for low, high in panel[1] if values[low] == values[high]]


def is_best(panel, values):
    """Return whether these numbers are the best rating, by guarantee (a)."""
    return obeys(panel, values) and can_carry(needs_of(panel, values), tight_rules(panel, values))


def leads_to(rules, start, end):
    """Return whether rules lead from the item start to the item end."""
    seen = [start]
    for item in seen:
        seen += [high for low, high in rules if low == item and high not in seen]
    return end in seen


def rating_by_amounts(panel, amounts):
    """Return the numbers mark - outflow / weight for amounts that are numbers."""
    values = []
    for item, (mark, weight) in enumerate(panel[0]):
        out = [amount for (low, high), amount in zip(panel[1], amounts) if low == item]
        back = [amount for (low, high), amount in zip(panel[1], amounts) if high == item]
        values.append(mark - (sum(out, Fraction(0)) - sum(back, Fraction(0))) / weight)
    return values


def supports(panel, values, amounts):
    """Return whether amounts that are numbers support a rating that is numbers."""
    if not obeys(panel, values) or rating_by_amounts(panel, amounts) != values:
        return False
    pairs = list(zip(panel[1], amounts))
    return all(amount == 0 or amount > 0 and values[low] == values[high] for (low, high), amount in pairs)


def corner_amounts(panel, values):
    """Return the amounts, as numbers, that support the rating and use rules which form no ring.

    A ring is meant in whatever direction its rules lead. All other supporting
    amounts are averages of these, plus something around cycles. So the least
    amount of a rule, and the greatest if there is one, are found here.
    """
    tight = [at for at, (low, high) in enumerate(panel[1]) if values[low] == values[high]]
    found = []
    for size in range(min(len(tight), len(panel[0]) - 1) + 1):
        for used in itertools.combinations(tight, size):
            amounts = forest_amounts(panel, values, used)
            if amounts is not None and supports(panel, values, amounts):
                found.append(amounts)
    return found


def forest_amounts(panel, values, used):
    """Return the only amounts at these rules that can lead to the rating, or None if the rules form a ring."""
    left = needs_of(panel, values)
    used = list(used)
    amounts = [Fraction(0)] * len(panel[1])
    while used:
        ends = [item for at in used for item in panel[1][at]]
        leaf = next((item for item in ends if ends.count(item) == 1), None)
        if leaf is None:
            return None
        at = next(at for at in used if leaf in panel[1][at])
        used.remove(at)
        low, high = panel[1][at]
        amounts[at] = left[low] if leaf == low else -left[high]
        left[low] -= amounts[at]
        left[high] += amounts[at]
    return amounts


def row_by_averages(row):
    """Return the best rating of a row: averages of neighbouring items limit each of them."""
    totals, weights = [0], [0]
    for mark, weight in row:
        totals.append(totals[-1] + mark * weight)
        weights.append(weights[-1] + weight)
    size = len(row)

    def average_from(first, last):
        return Fraction(totals[last + 1] - totals[first], weights[last + 1] - weights[first])

    # The least average from first on, of all stretches that end at item or later.
    least = [[None] * size for first in range(size)]
    for first in range(size):
        for last in range(size - 1, first - 1, -1):
            here = average_from(first, last)
            least[first][last] = here if last == size - 1 else min(here, least[first][last + 1])
    return [max(least[first][item] for first in range(item + 1)) for item in range(size)]


def force(panel, values, group, side):
    """Return the force on a group for a rating that is numbers, or None if it cannot move to the side."""
    for low, high in panel[1]:
        first, second = (low, high) if side == "up" else (high, low)
        if first in group and second not in group and values[low] == values[high]:
            return None
    total = sum((panel[0][item][1] * (panel[0][item][0] - values[item]) for item in group), Fraction(0))
    return total if side == "up" else -total


def drawn_groups(panel, values):
    """Return each (group, side) that is drawn, for a rating that is numbers."""
    pairs = [(group, side) for group in all_groups(panel)[1:] for side in ("up", "down")]
    return [pair for pair in pairs if (force(panel, values, *pair) or 0) > 0]


def are_witnesses(panel, item, value, up, down):
    """Return whether a number and two groups are witnesses of an item, by the words of point 26."""
    if not (goes_up(panel, up) and item in up and goes_down(panel, down) and item in down):
        return False
    for group in all_groups(panel):
        if item in group and goes_down(panel, group):
            if average(panel, [other for other in group if other in up]) < value:
                return False
        if item in group and goes_up(panel, group):
            if average(panel, [other for other in group if other in down]) > value:
                return False
    return True


def spread(panel, whole):
    return sum(weight * abs(value - mark) for (mark, weight), value in zip(panel[0], whole))


def whole_ratings(panel, values):
    """Return all whole ratings with these integers that obey the rules."""
    return [whole for whole in itertools.product(values, repeat=len(panel[0])) if obeys(panel, whole)]


def median_ratings(panel, values):
    """Return those whole ratings with these integers that obey the rules and have the least spread among them."""
    found = whole_ratings(panel, values)
    least = min(spread(panel, whole) for whole in found)
    return [whole for whole in found if spread(panel, whole) == least]
