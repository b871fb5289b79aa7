"""Points 37 to 41: rows of items, none of which must be rated below the item before it."""

import copy
import itertools
import random
import unittest
from fractions import Fraction

from cases import CallCase
from oracles import numbers, row_by_averages, told
from poolmarks import rows
from poolmarks.errors import NotFalling
from poolmarks.ratings import best_rating
from poolmarks.rows import falling_places, merge_blocks, pool_row, rate_row, start_blocks
from samples import MARK, WEIGHT
from samples import any_values

EXAMPLE = ((4, 1), (0, 1), (3, 2))
LONG = 10 ** 29


def edge_rows():
    """Return the rows at the edges of point 37, each under a name."""
    return {
        "the example": EXAMPLE,
        "one item": ((7, 3),),
        "two items that rise": ((1, 3), (2, 1)),
        "two items that fall": ((2, 3), (1, 1)),
        "two equal items": ((2, 3), (2, 1)),
        "forty rising items": tuple((3 * k - 50, k % 7 + 1) for k in range(40)),
        "forty falling items": tuple((50 - 3 * k, k % 7 + 1) for k in range(40)),
        "forty equal items": tuple((-4, k % 5 + 1) for k in range(40)),
        "forty mixed items": tuple((k * k * 37 % 101 - 50, k * 13 % 9 + 1) for k in range(40)),
        "up and down": tuple((5 * (-1) ** k, 1) for k in range(40)),
        "limits, falling": tuple(((MARK, WEIGHT) if k < 20 else (-MARK, 1)) for k in range(40)),
        "limits, rising": tuple(((-MARK, WEIGHT) if k < 20 else (MARK, 1)) for k in range(40)),
        "limits, up and down": tuple(((MARK - k) * (-1) ** k, WEIGHT - k) for k in range(40)),
        "one low item at the end": (*((k, 1) for k in range(39)), (-1000, 1000)),
        "one high item at the beginning": ((1000, 1000), *((k, 1) for k in range(39))),
        "blocks with equal averages": ((3, 1), (1, 1), (4, 1), (0, 1), (2, 1), (2, 7)),
    }


def drawn_rows(seed, many, *, size=40, mark=9, weight=5):
    source = random.Random(seed)
    return [
        tuple((source.randint(-mark, mark), source.randint(1, weight)) for k in range(source.randint(1, size)))
        for k in range(many)
    ]


def many_rows(seed, many):
    found = list(edge_rows().values())
    found += drawn_rows(seed, many) + drawn_rows(seed + 1, many, size=6, mark=2, weight=2)
    return found + drawn_rows(seed + 2, many // 2, mark=MARK, weight=WEIGHT)


def drawn_blocks(seed, many):
    """Return blocks with integers of up to 30 digits, with equal averages among them."""
    source = random.Random(seed)
    found = []
    for k in range(many):
        most = source.choice((3, 10 ** 6, 10 ** 30 - 1))
        blocks = []
        for at in range(source.randint(1, 12)):
            total, weight = source.randint(-most, most), source.randint(1, most)
            if blocks and source.random() < 0.3 and abs(blocks[-1][1]) < 10 ** 14 and blocks[-1][2] < 10 ** 14:
                factor = source.randint(1, 10 ** 15)
                total, weight = blocks[-1][1] * factor, blocks[-1][2] * factor
            blocks.append((source.randint(1, source.choice((1, 9, most))), total, weight))
        found.append(tuple(blocks))
    return found


def places_of(blocks):
    averages = [Fraction(total, weight) for size, total, weight in blocks]
    return tuple(k for k in range(len(blocks) - 1) if averages[k] > averages[k + 1])


def row_cost(row, values):
    return sum(weight * (value - mark) ** 2 for (mark, weight), value in zip(row, values))


class BlockCase(CallCase):
    def check_blocks(self, value):
        self.assertIs(type(value), tuple)
        for block in value:
            self.assertIs(type(block), tuple)
            self.assertEqual([type(part) for part in block], [int, int, int])

    def check_not_falling(self, blocks, index):
        before = copy.deepcopy((blocks, index))
        for step in range(2):
            with self.assertRaises(NotFalling) as caught:
                merge_blocks(blocks, index)
            self.assertIs(caught.exception.index, index)
        self.assertEqual((blocks, index), before)


class TestStartBlocks(BlockCase):
    def test_one_block_for_each_item(self):
        for row in many_rows(110, 60):
            with self.subTest(row=row):
                found = self.call(start_blocks, row)
                self.check_blocks(found)
                self.assertEqual(found, tuple((1, mark * weight, weight) for mark, weight in row))

    def test_limits(self):
        self.assertEqual(start_blocks(((-MARK, WEIGHT), (MARK, 1))), ((1, -(10 ** 15), 10 ** 6), (1, 10 ** 9, 1)))


class TestFallingPlaces(BlockCase):
    def check_places(self, blocks):
        found = self.call(falling_places, blocks)
        self.check_group(found)
        self.assertEqual(found, places_of(blocks))

    def test_rows(self):
        for row in many_rows(111, 60):
            with self.subTest(row=row):
                self.check_places(start_blocks(row))

    def test_blocks_with_integers_of_30_digits_and_with_equal_averages(self):
        for blocks in drawn_blocks(112, 300):
            with self.subTest(blocks=blocks):
                self.check_places(blocks)

    def test_averages_that_nearly_agree(self):
        one, other = (1, LONG, LONG + 1), (2, LONG + 1, LONG + 2)
        self.assertEqual(falling_places((one, other)), ())
        self.assertEqual(falling_places((other, one)), (0,))
        self.assertEqual(falling_places((one, (7, LONG, LONG + 1))), ())
        self.assertEqual(falling_places(((1, -LONG, LONG + 1), (2, -LONG - 1, LONG + 2))), (0,))

    def test_equal_averages_do_not_fall(self):
        self.assertEqual(falling_places(((1, 2, 4), (3, 1, 2), (2, 10 ** 28, 2 * 10 ** 28))), ())
        self.assertEqual(falling_places(((1, 0, 4), (3, 0, 2), (2, 0, 9))), ())

    def test_one_block_has_none(self):
        self.assertEqual(falling_places(((1, 5, 1),)), ())

    def test_falling_and_rising_rows(self):
        self.assertEqual(falling_places(start_blocks(edge_rows()["forty falling items"])), tuple(range(39)))
        self.assertEqual(falling_places(start_blocks(edge_rows()["forty rising items"])), ())
        self.assertEqual(falling_places(start_blocks(edge_rows()["up and down"])), tuple(range(0, 39, 2)))


class TestMergeBlocks(BlockCase):
    def all_blocks(self):
        return drawn_blocks(113, 60) + [start_blocks(row) for row in many_rows(114, 10)]

    def test_each_falling_place(self):
        for blocks in self.all_blocks():
            for index in places_of(blocks):
                with self.subTest(blocks=blocks, index=index):
                    found = self.call(merge_blocks, blocks, index)
                    self.check_blocks(found)
                    merged = tuple(sum(parts) for parts in zip(blocks[index], blocks[index + 1]))
                    self.assertEqual(found, (*blocks[:index], merged, *blocks[index + 2:]))

    def test_every_other_index(self):
        for blocks in self.all_blocks():
            for index in range(-len(blocks) - 2, len(blocks) + 3):
                if index not in places_of(blocks):
                    with self.subTest(blocks=blocks, index=index):
                        self.check_not_falling(blocks, index)

    def test_indexes_far_outside(self):
        blocks = ((1, 4, 1), (1, 0, 1), (1, 6, 2))
        for index in (LONG, -LONG, 10 ** 30 - 1, -1, -2, -3, 2, 3, 40):
            with self.subTest(index=index):
                self.check_not_falling(blocks, index)

    def test_true_and_false_are_no_indexes(self):
        blocks = start_blocks(((3, 1), (2, 1), (1, 1)))
        self.assertEqual(falling_places(blocks), (0, 1))
        self.check_not_falling(blocks, False)
        self.check_not_falling(blocks, True)
        self.assertEqual(merge_blocks(blocks, 0), ((2, 5, 2), (1, 1, 1)))
        self.assertEqual(merge_blocks(blocks, 1), ((1, 3, 1), (2, 3, 2)))

    def test_values_of_all_kinds(self):
        blocks = ((1, 4, 1), (1, 0, 1), (1, 6, 2))
        for value in any_values():
            if repr(value) != "0":
                with self.subTest(value=value):
                    self.check_not_falling(blocks, value)
                    self.check_not_falling(blocks, (value,))
                    self.check_not_falling(blocks, [value])
        for value in ("0", (0,), [0], {"0": 0}, None, ""):
            self.check_not_falling(blocks, value)

    def test_one_block(self):
        for index in (-1, 0, 1, True, False, None):
            self.check_not_falling(((1, 5, 1),), index)


class TestPoolRow(BlockCase):
    def check_pooled(self, row, found):
        self.check_blocks(found)
        self.assertEqual(places_of(found), ())
        at = 0
        for size, total, weight in found:
            part = row[at:at + size]
            self.assertEqual(total, sum(mark * weight for mark, weight in part))
            self.assertEqual(weight, sum(weight for mark, weight in part))
            # Blocks are merged only where an average falls, so each beginning of one lies above the whole.
            for cut in range(1, size):
                first = sum(mark * weight for mark, weight in part[:cut])
                self.assertGreater(Fraction(first, sum(weight for mark, weight in part[:cut])), Fraction(total, weight))
            at += size
        self.assertEqual(at, len(row))

    def test_blocks_of_each_row(self):
        for row in many_rows(115, 60):
            with self.subTest(row=row):
                self.check_pooled(row, self.call(pool_row, row))

    def test_merges_in_any_order(self):
        source = random.Random(116)
        for row in many_rows(117, 40):
            expected = pool_row(row)
            for step in range(4):
                blocks = start_blocks(row)
                while falling_places(blocks):
                    blocks = merge_blocks(blocks, source.choice(falling_places(blocks)))
                with self.subTest(row=row, step=step):
                    self.assertEqual(blocks, expected)

    def all_ends(self, blocks):
        """Return every result of merging as long as something falls."""
        places = falling_places(blocks)
        if not places:
            return {blocks}
        return set().union(*[self.all_ends(merge_blocks(blocks, place)) for place in places])

    def test_all_orders_of_merges_of_short_rows(self):
        for marks in itertools.product(range(3), repeat=5):
            row = tuple((mark, at % 2 + 1) for at, mark in enumerate(marks))
            with self.subTest(row=row):
                self.assertEqual(self.all_ends(start_blocks(row)), {pool_row(row)})

    def test_blocks_with_equal_averages_are_not_merged(self):
        self.assertEqual(pool_row(((2, 3), (2, 1))), ((1, 6, 3), (1, 2, 1)))
        self.assertEqual(
            pool_row(edge_rows()["blocks with equal averages"]),
            ((2, 4, 2), (2, 4, 2), (1, 2, 1), (1, 14, 7)),
        )
        self.assertEqual(len(pool_row(edge_rows()["forty equal items"])), 40)

    def test_known_results(self):
        self.assertEqual(pool_row(((7, 3),)), ((1, 21, 3),))
        self.assertEqual(len(pool_row(edge_rows()["forty falling items"])), 1)
        rising = edge_rows()["forty rising items"]
        self.assertEqual(pool_row(rising), start_blocks(rising))
        self.assertEqual(pool_row(edge_rows()["up and down"]), ((2, 0, 2),) * 20)
        self.assertEqual(pool_row(edge_rows()["limits, falling"])[0][0], 40)
        self.assertEqual(pool_row(edge_rows()["one low item at the end"]), ((40, 741 - 10 ** 6, 1039),))


class TestRateRow(BlockCase):
    def test_the_averages_of_the_blocks(self):
        for row in many_rows(118, 60):
            with self.subTest(row=row):
                found = self.call(rate_row, row)
                self.check_fractions(found, len(row))
                expected = []
                for size, total, weight in pool_row(row):
                    expected += [told(Fraction(total, weight))] * size
                self.assertEqual(found, tuple(expected))

    def test_the_best_rating_of_a_panel_with_a_rule_between_neighbours(self):
        rows_of_panels = drawn_rows(119, 150, size=8) + drawn_rows(120, 60, size=8, mark=MARK, weight=WEIGHT)
        rows_of_panels += [row[:8] for row in edge_rows().values()]
        for row in rows_of_panels:
            with self.subTest(row=row):
                panel = (row, tuple((k, k + 1) for k in range(len(row) - 1)))
                self.assertEqual(rate_row(row), best_rating(panel))

    def test_averages_of_neighbours_limit_it(self):
        for row in many_rows(121, 30):
            with self.subTest(row=row):
                self.assertEqual(numbers(rate_row(row)), row_by_averages(row))

    def test_no_tuple_that_never_falls_costs_less(self):
        source = random.Random(122)
        for row in many_rows(123, 20):
            best = numbers(rate_row(row))
            self.assertEqual(best, sorted(best))
            for step in range(6):
                change = Fraction(source.choice((1, 5, MARK)), source.choice((1, 7, 10 ** 9)))
                values = sorted(value + change * source.randint(-2, 2) for value in best)
                with self.subTest(row=row, step=step):
                    self.assertTrue(values == best or row_cost(row, values) > row_cost(row, best))

    def test_known_results(self):
        self.assertEqual(rate_row(((7, 3),)), ((7, 1),))
        self.assertEqual(rate_row(((2, 3), (1, 1))), ((7, 4), (7, 4)))
        self.assertEqual(rate_row(edge_rows()["blocks with equal averages"]), ((2, 1),) * 6)
        self.assertEqual(rate_row(((MARK, WEIGHT), (-MARK, WEIGHT))), ((0, 1), (0, 1)))
        rising = edge_rows()["forty rising items"]
        self.assertEqual(rate_row(rising), tuple((mark, 1) for mark, weight in rising))


class TestInterface(CallCase):
    def test_each_function_is_defined_in_this_module(self):
        self.check_module(rows, ("start_blocks", "falling_places", "merge_blocks", "pool_row", "rate_row"))

    def test_no_call_takes_long(self):
        for row in many_rows(124, 10):
            with self.subTest(row=row):
                self.check_time(start_blocks, row)
                self.check_time(falling_places, start_blocks(row))
                self.check_time(pool_row, row)
                self.check_time(rate_row, row)
        for blocks in drawn_blocks(125, 20):
            for index in places_of(blocks):
                self.check_time(merge_blocks, blocks, index)


if __name__ == "__main__":
    unittest.main()
