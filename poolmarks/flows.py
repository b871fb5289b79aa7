"""What the rules inside one level must carry, in integers.

Amounts that support the best rating are 0 at rules between levels. Inside a
level everything is counted in parts of one over the denominator of the
level's value: in this unit all needs are integers.
"""

from poolmarks.groups import closed_groups


def level_needs(panel, level):
    """Return the outflow that each item of a level (value, group) must have, in the level's unit."""
    (numerator, denominator), group = level
    needs = {}
    for item in group:
        mark, weight = panel[0][item]
        needs[item] = weight * (mark * denominator - numerator)
    return needs


def inner_rules(panel, group):
    """Return the ascending list of the rules whose low and high are in the group."""
    return [rule for rule, (low, high) in enumerate(panel[1]) if low in group and high in group]


def amount_limits(needs, rule, others):
    """Return the least and the greatest amount of a rule if the other rules carry the rest.

    needs has the outflow of each item; the greatest amount is None if there is none.
    """
    low, high = rule
    least = 0
    greatest = None
    # No other rule leads out of these groups. So the rule alone carries what a group
    # must give away, and it brings no more than a group can take in.
    for group in closed_groups(sorted(needs), others):
        need = sum([needs[item] for item in group])
        if low in group and high not in group:
            least = max(least, need)
        if high in group and low not in group and (greatest is None or -need < greatest):
            greatest = -need
    return (least, greatest)
