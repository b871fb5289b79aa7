"""Rows: items of which none must be rated below the item before it.

A block (size, total, weight) stands for neighbouring items of a row.
"""

from poolmarks.errors import NotFalling
from poolmarks.fractions import is_plain_integer, make_fraction


def start_blocks(row):
    """Return the blocks of the single items."""
    return tuple([(1, weight * mark, weight) for mark, weight in row])


def is_falling(block, following):
    """Return whether the average of a block is greater than that of the following block."""
    # Weights are positive, so multiplying by them keeps the order.
    return block[1] * following[2] > following[1] * block[2]


def falling_places(blocks):
    """Return the ascending tuple of the indexes of all blocks that fall to the following block."""
    return tuple([at for at in range(len(blocks) - 1) if is_falling(blocks[at], blocks[at + 1])])


def merge_blocks(blocks, index):
    """Return the blocks in which the blocks index and index + 1 are one."""
    # True and False equal 1 and 0, but they are no indexes.
    if not is_plain_integer(index) or index not in falling_places(blocks):
        raise NotFalling(index)
    size, total, weight = blocks[index]
    more_size, more_total, more_weight = blocks[index + 1]
    merged = (size + more_size, total + more_total, weight + more_weight)
    return blocks[:index] + (merged,) + blocks[index + 2:]


def pool_row(row):
    """Return the blocks of the row, merged until none falls."""
    blocks = start_blocks(row)
    places = falling_places(blocks)
    while len(places) > 0:
        blocks = merge_blocks(blocks, places[0])
        places = falling_places(blocks)
    return blocks


def rate_row(row):
    """Return the average of its block of pool_row for each item."""
    rating = []
    for size, total, weight in pool_row(row):
        rating += [make_fraction(total, weight)] * size
    return tuple(rating)
