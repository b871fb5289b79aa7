"""Values that several tests use."""

import math
import random
from fractions import Fraction

SMALL = range(-6, 7)

# 30 digits each, some of them multiples of one another.
LONG = (
    10 ** 29,
    10 ** 30 - 1,
    -(10 ** 30 - 1),
    (10 ** 30 - 1) // 3,
    (10 ** 30 - 1) // 9,
    -(2 ** 97),
    2 ** 98,
    3 ** 62,
)

# Hundreds of digits each.
HUGE = (2 ** 1300, 3 ** 800, 7 ** 400, 10 ** 399 - 1, 2 ** 600 * 3 ** 400)


def any_values():
    """Return new values of all kinds that point 3 calls any value."""
    deep_tuple = (1, 2)
    deep_list = [1, 2]
    for step in range(18):
        deep_tuple = (deep_tuple,)
        deep_list = [deep_list]
    return [
        None, True, False,
        0, 1, -1, 2, 10 ** 29, -(10 ** 30 - 1),
        "", " ", "1/2", "12", "(1, 2)", "a\nb\n", "~" * 400, "x" * 4000,
        (), (1,), (1, 2, 3), ((1, 2),), ((1, 2), (1, 2)), (1, (2, 3)), ((1, 2), 3),
        ("1", "2"), ("1", 2), (1, "2"), (None, 1), (1, None), (None, None),
        [], [1], [1, 2], [[1, 2]], ([1], [2]), (1, [2]), ([1], 2), [(1, 2), (3, 4)],
        {}, {"a": 1}, {"a": [1, {"b": (1, 2)}]}, ({}, {}), (1, {"a": 1}), {"1": 2, "3": 4},
        tuple(range(4000)), list(range(4000)), deep_tuple, deep_list,
        (((4, 1), (0, 1), (3, 2)), ((0, 1), (1, 2))), (((2, 1), (0, 1)), ((3, 1), (2,))),
        ("from", (6, 1)), ("always",), "done", "3 items, 2 rules, 4 actions",
    ]


def lowest_terms(numerator, denominator):
    """Return the fraction, by Python's own divisor."""
    divisor = math.gcd(numerator, denominator)
    return (numerator // divisor, denominator // divisor)


def small_fractions():
    return sorted({lowest_terms(top, bottom) for top in SMALL for bottom in range(1, 7)})


def large_fractions():
    found = [lowest_terms(top, bottom) for top in HUGE for bottom in HUGE]
    found += [lowest_terms(-top, bottom + 1) for top in HUGE for bottom in HUGE]
    found += [lowest_terms(top, abs(bottom)) for top in LONG for bottom in LONG]
    return sorted(set(found))


def mixed_fractions():
    """Return a few fractions of every size, each with its opposite, and 0."""
    some = small_fractions()[::7] + large_fractions()[::11]
    some += [(1, 2), (1, 3), (1, 1), (2, 3), (10 ** 399, 10 ** 399 - 1), (10 ** 399 + 1, 10 ** 399)]
    return sorted(set(some + [(-top, bottom) for top, bottom in some] + [(0, 1)]))


def drawn_fractions(seed, many):
    """Return fractions of many sizes, always the same ones for a seed."""
    source = random.Random(seed)
    found = []
    for k in range(many):
        top = source.randrange(10 ** source.choice((1, 2, 9, 30, 200, 400)))
        bottom = source.randrange(10 ** source.choice((1, 2, 9, 30, 200, 400))) + 1
        found.append(lowest_terms(source.choice((-1, 1)) * top, bottom))
    return found


MARK = 10 ** 9
WEIGHT = 10 ** 6

# The panel of the document's examples.
P = (((4, 1), (0, 1), (3, 2)), ((0, 1), (1, 2)))

CHAIN = tuple((k, k + 1) for k in range(7))
ROUND = (*CHAIN, (7, 0))
SPREAD = ((5, 3), (-2, 1), (7, 2), (7, 7), (0, 4), (-9, 1), (3, 6), (1, 2))
FALLING = tuple((10 - 3 * k, k + 1) for k in range(8))
RISING = tuple((3 * k - 10, 8 - k) for k in range(8))
LIMITS = tuple((MARK * (-1) ** k, WEIGHT if k < 4 else 1) for k in range(8))
ODD_LIMITS = tuple(((MARK - k) * (-1) ** (k // 2), WEIGHT - 7 * k) for k in range(8))
GRID = (*CHAIN, *((k, k + 2) for k in range(6)), (0, 3), (1, 5), (2, 7))


def edge_panels():
    """Return the panels at the edges of point 8, each under a name."""
    return {
        "one item": (((5, 3),), ()),
        "one item at a limit": (((-MARK, WEIGHT),), ()),
        "two items, no rule": (((1, 1), (0, 1)), ()),
        "two items, a rule that is obeyed": (((0, 1), (1, 1)), ((0, 1),)),
        "two items, a rule that is not": (((1, 1), (0, 2)), ((0, 1),)),
        "two items at the limits": (((MARK, WEIGHT), (-MARK, 1)), ((0, 1),)),
        "opposite rules": (((4, 1), (1, 2)), ((0, 1), (1, 0))),
        "opposite rules, sixteen": (((4, 1), (1, 2), (9, 9)), ((0, 1), (1, 0)) * 8),
        "equal marks": (((2, 1), (2, 5), (2, 3)), ((0, 1), (1, 2))),
        "equal averages that no rule connects": (((4, 1), (0, 1), (1, 1), (3, 1), (2, 2)), ((0, 1), (3, 2))),
        "equal averages in a chain": (((3, 1), (1, 1), (4, 1), (0, 1)), ((0, 1), (1, 2), (2, 3))),
        "a repeated rule": (((9, 2), (1, 1), (5, 3)), ((0, 1), (0, 1), (0, 1), (1, 2))),
        "the example": P,
        "no rule": (SPREAD, ()),
        "a falling chain": (FALLING, CHAIN),
        "a rising chain": (RISING, CHAIN),
        "a mixed chain": (SPREAD, CHAIN),
        "a chain against the order of the items": (RISING, tuple((high, low) for low, high in CHAIN)),
        "a round of all items": (SPREAD, ROUND),
        "two rounds": (SPREAD, ((0, 1), (1, 2), (2, 0), (3, 4), (4, 5), (5, 3), (2, 3), (6, 7))),
        "a round with a tail": (SPREAD, ((0, 1), (1, 0), (1, 2), (2, 3), (6, 0))),
        "a star to one item": (SPREAD, tuple((k, 0) for k in range(1, 8))),
        "a star from one item": (SPREAD, tuple((3, k) for k in range(8) if k != 3)),
        "one rule sixteen times": (SPREAD, ((2, 1),) * 16),
        "sixteen rules": (FALLING, GRID),
        "sixteen rules with rounds": (SPREAD, (*ROUND, *[(high, low) for low, high in ROUND])),
        "limits, no rule": (LIMITS, ()),
        "limits, a chain": (LIMITS, CHAIN),
        "limits, a round": (LIMITS, ROUND),
        "limits, sixteen rules": (LIMITS, GRID),
        "odd limits, no rule": (ODD_LIMITS, ()),
        "odd limits, one rule sixteen times": (ODD_LIMITS, ((5, 4),) * 16),
        "odd limits, sixteen rules": (ODD_LIMITS, GRID),
        "all marks at the upper limit": (((MARK, WEIGHT),) * 8, GRID),
        "all marks at the lower limit": (((-MARK, 1),) * 8, ROUND),
    }


def drawn_panels(seed, many, *, items=8, rules=16, mark=9, weight=5):
    """Return panels of at most this size, always the same ones for the same arguments."""
    source = random.Random(seed)
    found = []
    for k in range(many):
        size = source.randint(1, items)
        drawn = tuple((source.randint(-mark, mark), source.randint(1, weight)) for k in range(size))
        pairs = [(low, high) for low in range(size) for high in range(size) if low != high]
        if source.random() < 0.6:
            # Without rounds, and with the items in any order.
            order = source.sample(range(size), size)
            pairs = [(low, high) for low, high in pairs if order[low] < order[high]]
        found.append((drawn, tuple(source.choice(pairs) for k in range(source.randint(0, rules)) if pairs)))
    return found


def many_panels(seed, many):
    """Return panels of all sizes: at the edges, small, large, and with marks and weights up to their limits."""
    found = list(edge_panels().values())
    found += drawn_panels(seed, many)
    found += drawn_panels(seed + 1, many, items=4, rules=4, mark=3, weight=2)
    found += drawn_panels(seed + 2, many // 2, mark=MARK, weight=WEIGHT)
    found += drawn_panels(seed + 3, many // 2, items=8, rules=8, mark=2, weight=1)
    return found


def known_panel(seed):
    """Return a panel and its best rating, which is known from the way the panel is made.

    The items of a level get marks first. A tree of rules joins them, each in
    the direction that carries an amount of 0 or more, so that amounts support
    the average of the level. Levels with greater averages follow. Further
    rules then stand only where the rating obeys them.
    """
    source = random.Random(seed)
    top = source.choice((5, 40, MARK))
    heaviest = source.choice((1, 6, WEIGHT))
    order = source.sample(range(8), 8)[:source.randint(1, 8)]
    names = sorted(order)
    items = {item: (source.randint(-top, top), source.randint(1, heaviest)) for item in names}
    rating = {}
    rules = []
    while order:
        size = source.randint(1, len(order))
        group, order = order[:size], order[size:]
        weights = sum(items[item][1] for item in group)
        value = Fraction(sum(items[item][0] * items[item][1] for item in group), weights)
        rating.update({item: value for item in group})
        left = {item: items[item][1] * (items[item][0] - value) for item in group}
        for at in range(size - 1, 0, -1):
            item, parent = group[at], group[source.randrange(at)]
            rules.append((item, parent) if left[item] >= 0 else (parent, item))
            left[parent] += left[item]
    while len(names) > 1 and len(rules) < source.randint(0, 16):
        low, high = source.sample(names, 2)
        if rating[low] <= rating[high]:
            rules.append((low, high))
    source.shuffle(rules)
    rules = tuple((names.index(low), names.index(high)) for low, high in rules)
    values = tuple((rating[item].numerator, rating[item].denominator) for item in names)
    return (tuple(items[item] for item in names), rules), values


def known_panels(seed, many):
    return [known_panel(1000 * seed + k) for k in range(many)]


def edge_thresholds():
    """Return fractions far from all marks, and some with 400 digits in each part."""
    far = (0, 1, -1, MARK, -MARK, MARK + 1, 10 ** 29, -(10 ** 30 - 1), 10 ** 399, -(10 ** 400 - 1))
    found = [(value, 1) for value in far]
    found += [lowest_terms(10 ** 400 - 1, 10 ** 399 + 7), lowest_terms(1 - 10 ** 400, 7 * 10 ** 399)]
    found += [(1, 10 ** 399), (-1, 10 ** 400 - 1), lowest_terms(10 ** 400 - 3, 10 ** 391)]
    return found


def near_fractions(fraction):
    """Return fractions next to this one, at both sides."""
    top, bottom = fraction
    return [
        lowest_terms(top * step + sign * bottom, bottom * step)
        for step in (2, 10 ** 12, 10 ** 380)
        for sign in (-1, 1)
    ]


def obeying(panel, values):
    """Return the numbers raised as little as needed to obey the rules."""
    values = list(values)
    for time in panel[0]:
        for low, high in panel[1]:
            values[high] = max(values[low], values[high])
    return values


def obeying_ratings(seed, panel, best):
    """Return ratings that obey the rules, most of them not the best one, which is given."""
    source = random.Random(seed)
    best = [Fraction(*value) for value in best]
    size = len(best)
    far = [Fraction(10 ** 40), Fraction(-(10 ** 40)), Fraction(0), Fraction(7, 3)]
    found = [[value] * size for value in far + best]
    found += [obeying(panel, [Fraction(mark) for mark, weight in panel[0]])]
    for time in range(6):
        other = obeying(panel, [source.choice(best) + source.randint(-3, 3) for item in best])
        found.append(other)
        found.append([(one + two) / 2 for one, two in zip(best, other)])
        # Next to the best rating, at one side or at both.
        step = Fraction(source.choice((-1, 1)), 10 ** source.choice((2, 30, 300)))
        chosen = source.randrange(size)
        found.append(obeying(panel, [value + step * (item == chosen) for item, value in enumerate(best)]))
        found.append([one + (two - one) * abs(step) for one, two in zip(best, other)])
    found.append(obeying(panel, [Fraction(*value) for value in drawn_fractions(seed, size)]))
    return [tuple((value.numerator, value.denominator) for value in values) for values in found]
