"""Values that several tests use."""

import math
import random

SMALL = range(-6, 7)

# 30 digits each, some of them multiples of one another.
LONG = (
    10 ** 29,
    10 ** 30 - 1,
    -(10 ** 30 - 1),
    (10 ** 30 - 1) // 3,
    (10 ** 30 - 1) // 9,
    -(2 ** 97),
    2 ** 98,
    3 ** 62,
)

# Hundreds of digits each.
HUGE = (2 ** 1300, 3 ** 800, 7 ** 400, 10 ** 399 - 1, 2 ** 600 * 3 ** 400)


def any_values():
    """Return new values of all kinds that point 3 calls any value."""
    deep_tuple = (1, 2)
    deep_list = [1, 2]
    for step in range(18):
        deep_tuple = (deep_tuple,)
        deep_list = [deep_list]
    return [
        None, True, False,
        0, 1, -1, 2, 10 ** 29, -(10 ** 30 - 1),
        "", " ", "1/2", "12", "(1, 2)", "a\nb\n", "~" * 400, "x" * 4000,
        (), (1,), (1, 2, 3), ((1, 2),), ((1, 2), (1, 2)), (1, (2, 3)), ((1, 2), 3),
        ("1", "2"), ("1", 2), (1, "2"), (None, 1), (1, None), (None, None),
        [], [1], [1, 2], [[1, 2]], ([1], [2]), (1, [2]), ([1], 2), [(1, 2), (3, 4)],
        {}, {"a": 1}, {"a": [1, {"b": (1, 2)}]}, ({}, {}), (1, {"a": 1}), {"1": 2, "3": 4},
        tuple(range(4000)), list(range(4000)), deep_tuple, deep_list,
        (((4, 1), (0, 1), (3, 2)), ((0, 1), (1, 2))), (((2, 1), (0, 1)), ((3, 1), (2,))),
        ("from", (6, 1)), ("always",), "done", "3 items, 2 rules, 4 actions",
    ]


def lowest_terms(numerator, denominator):
    """Return the fraction, by Python's own divisor."""
    divisor = math.gcd(numerator, denominator)
    return (numerator // divisor, denominator // divisor)


def small_fractions():
    return sorted({lowest_terms(top, bottom) for top in SMALL for bottom in range(1, 7)})


def large_fractions():
    found = [lowest_terms(top, bottom) for top in HUGE for bottom in HUGE]
    found += [lowest_terms(-top, bottom + 1) for top in HUGE for bottom in HUGE]
    found += [lowest_terms(top, abs(bottom)) for top in LONG for bottom in LONG]
    return sorted(set(found))


def mixed_fractions():
    """Return a few fractions of every size, each with its opposite, and 0."""
    some = small_fractions()[::7] + large_fractions()[::11]
    some += [(1, 2), (1, 3), (1, 1), (2, 3), (10 ** 399, 10 ** 399 - 1), (10 ** 399 + 1, 10 ** 399)]
    return sorted(set(some + [(-top, bottom) for top, bottom in some] + [(0, 1)]))


def drawn_fractions(seed, many):
    """Return fractions of many sizes, always the same ones for a seed."""
    source = random.Random(seed)
    found = []
    for k in range(many):
        top = source.randrange(10 ** source.choice((1, 2, 9, 30, 200, 400)))
        bottom = source.randrange(10 ** source.choice((1, 2, 9, 30, 200, 400))) + 1
        found.append(lowest_terms(source.choice((-1, 1)) * top, bottom))
    return found
