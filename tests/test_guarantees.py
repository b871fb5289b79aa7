"""Point 2: the guarantees, with functions of several modules together."""

import random
import unittest
from fractions import Fraction

from cases import CallCase, answers
from models import drawn_action, expected_error, perform
from oracles import all_groups, number, numbers, told
from poolmarks.amounts import find_amounts, rating_of_amounts, supports_rating
from poolmarks.books import Book
from poolmarks.changes import clip_rating, relabel_panel, reverse_panel, reverse_rating, shift_panel
from poolmarks.consoles import Console
from poolmarks.fractions import make_fraction
from poolmarks.groups import upward_sets
from poolmarks.growth import mark_to_reach, with_mark
from poolmarks.judgements import check_judgement, group_force, judge_rating
from poolmarks.medians import highest_median, is_median, lowest_median
from poolmarks.panels import average_of, find_fault
from poolmarks.ratings import best_rating, cost_of, level_groups, obeys_rules
from poolmarks.rows import falling_places, merge_blocks, pool_row, rate_row, start_blocks
from poolmarks.rules import amount_range, idle_rules, without_rule
from poolmarks.texts import format_panel, format_rating, parse_panel, parse_rating
from poolmarks.thresholds import surplus_of, top_sets
from poolmarks.witnesses import check_witnesses, find_witnesses
from samples import MARK, WEIGHT
from samples import drawn_panels, edge_panels, many_panels, obeying_ratings


def with_marks(panel, marks):
    return (tuple((mark, weight) for mark, (old, weight) in zip(marks, panel[0])), panel[1])


class TestBestRating(CallCase):
    """Guarantee (a)."""

    def test_all_other_ratings_cost_more(self):
        for seed, panel in enumerate(many_panels(380, 15)):
            best = best_rating(panel)
            self.assertTrue(obeys_rules(panel, best))
            least = number(cost_of(panel, best))
            for rating in obeying_ratings(seed, panel, best):
                with self.subTest(panel=panel, rating=rating):
                    cost = number(cost_of(panel, rating))
                    self.assertTrue(cost > least or rating == best)

    def test_exactly_one_piece_of_evidence(self):
        for seed, panel in enumerate(drawn_panels(381, 40, items=5, rules=7)):
            for rating in obeying_ratings(seed, panel, best_rating(panel))[::2]:
                amounts = find_amounts(panel, rating)
                forces = [group_force(panel, rating, group, side) for group in all_groups(panel)[1:]
                          for side in ("up", "down")]
                drawn = any(force is not None and force[0] > 0 for force in forces)
                with self.subTest(panel=panel, rating=rating):
                    self.assertNotEqual(amounts is not None, drawn)
                    self.assertEqual(judge_rating(panel, rating)[0], "drawn" if drawn else "best")
                    self.assertTrue(check_judgement(panel, rating, judge_rating(panel, rating)))

    def test_whatever_amounts_support_a_rating_it_is_the_best_one(self):
        source = random.Random(382)
        found = 0
        for panel in drawn_panels(383, 400, items=3, rules=3, mark=2, weight=1):
            for time in range(12):
                amounts = tuple(make_fraction(source.randint(0, 3), source.choice((1, 2))) for rule in panel[1])
                rating = rating_of_amounts(panel, amounts)
                if supports_rating(panel, rating, amounts):
                    found += 1
                    self.assertEqual(rating, best_rating(panel))
                    self.assertEqual(judge_rating(panel, rating)[0], "best")
        self.assertGreater(found, 300)


class TestWitnesses(CallCase):
    """Guarantee (b)."""

    def test_they_limit_the_rating(self):
        for panel in many_panels(384, 20):
            best = best_rating(panel)
            for item in range(len(panel[0])):
                found = find_witnesses(panel, item)
                with self.subTest(panel=panel, item=item):
                    self.assertEqual(found[0], best[item])
                    self.assertTrue(check_witnesses(panel, item, found))


class TestThresholds(CallCase):
    """Guarantee (c)."""

    def test_smallest_and_greatest_set_with_the_greatest_surplus(self):
        for panel in drawn_panels(385, 40):
            best = numbers(best_rating(panel))
            for value in set(best) | {Fraction(1, 3)}:
                sets = upward_sets(panel)
                surpluses = [number(surplus_of(panel, group, told(value))) for group in sets]
                most = [set(group) for group, part in zip(sets, surpluses) if part == max(surpluses)]
                least, greatest = [set(group) for group in top_sets(panel, told(value))]
                with self.subTest(panel=panel, value=value):
                    self.assertIn(least, most)
                    self.assertIn(greatest, most)
                    self.assertTrue(all(least <= group <= greatest for group in most))
                    self.assertEqual(least, {item for item, part in enumerate(best) if part > value})
                    self.assertEqual(greatest, {item for item, part in enumerate(best) if part >= value})


class TestRows(CallCase):
    """Guarantee (d)."""

    def test_merges_in_any_order(self):
        source = random.Random(386)
        for time in range(60):
            row = tuple((source.randint(-9, 9), source.randint(1, 4)) for k in range(source.randint(1, 40)))
            for order in range(4):
                blocks = start_blocks(row)
                while falling_places(blocks):
                    blocks = merge_blocks(blocks, source.choice(falling_places(blocks)))
                self.assertEqual(blocks, pool_row(row))

    def test_a_row_is_a_panel_with_a_chain_of_rules(self):
        for panel in many_panels(387, 20):
            chain = (panel[0], tuple((k, k + 1) for k in range(len(panel[0]) - 1)))
            self.assertEqual(rate_row(panel[0]), best_rating(chain))


class TestMarks(CallCase):
    """Guarantees (e) and (g)."""

    def test_no_rating_falls_if_no_mark_falls(self):
        source = random.Random(388)
        for panel in drawn_panels(389, 100):
            more = [mark + source.choice((0, 0, 1, 5)) for mark, weight in panel[0]]
            before, after = numbers(best_rating(panel)), numbers(best_rating(with_marks(panel, more)))
            with self.subTest(panel=panel, more=more):
                self.assertTrue(all(one <= other for one, other in zip(before, after)))

    def test_no_rating_changes_by_more_than_the_marks(self):
        source = random.Random(390)
        for panel in drawn_panels(391, 100) + drawn_panels(392, 20, mark=MARK - 5, weight=WEIGHT):
            most = source.choice((0, 1, 4))
            other = [mark + source.randint(-most, most) for mark, weight in panel[0]]
            before, after = numbers(best_rating(panel)), numbers(best_rating(with_marks(panel, other)))
            with self.subTest(panel=panel, other=other):
                self.assertTrue(all(abs(one - two) <= most for one, two in zip(before, after)))

    def test_each_level_keeps_its_weighted_sum(self):
        for panel in many_panels(393, 30):
            levels = level_groups(panel)
            self.assertEqual(sorted(item for value, group in levels for item in group), list(range(len(panel[0]))))
            for value, group in levels:
                with self.subTest(panel=panel, group=group):
                    self.assertEqual(value, average_of(panel, group))
                    self.assertEqual(surplus_of(panel, group, value), (0, 1))

    def test_a_growing_mark_lets_no_rating_fall(self):
        for panel in drawn_panels(394, 40):
            size = len(panel[0])
            for item in range(size):
                mark, weight = panel[0][item]
                ratings = [numbers(best_rating(with_mark(panel, item, mark + 2 * k, weight))) for k in range(4)]
                for one, other in zip(ratings, ratings[1:]):
                    self.assertTrue(all(low <= high for low, high in zip(one, other)))
                # So what is reached by the grown mark is reached from that mark on or earlier.
                for watched in range(size):
                    answer = mark_to_reach(panel, item, watched, told(ratings[-1][watched]))
                    self.assertNotEqual(answer, ("never",))
                    self.assertTrue(answer == ("always",) or number(answer[1]) <= mark + 6)


class TestRules(CallCase):
    """Guarantee (f)."""

    def test_a_rule_can_be_removed_if_some_supporting_amounts_are_0_there(self):
        for panel in many_panels(395, 20):
            best = best_rating(panel)
            idle = idle_rules(panel)
            for rule in range(len(panel[1])):
                fewer = without_rule(panel, rule)
                amounts = find_amounts(fewer, best)
                with self.subTest(panel=panel, rule=rule):
                    self.assertEqual(rule in idle, best_rating(fewer) == best)
                    self.assertEqual(rule in idle, amounts is not None)
                    self.assertEqual(rule in idle, amount_range(panel, rule)[0] == (0, 1))
                    if amounts is not None:
                        whole = (*amounts[:rule], (0, 1), *amounts[rule:])
                        self.assertTrue(check_judgement(panel, best, ("best", whole)))


class TestMedians(CallCase):
    """Guarantee (h)."""

    def test_minimum_and_maximum_of_median_ratings(self):
        source = random.Random(396)
        for panel in drawn_panels(397, 60, items=6, rules=6, weight=1):
            lowest, highest = lowest_median(panel), highest_median(panel)
            found = [lowest, highest]
            for time in range(60):
                whole = tuple(source.randint(low, high) for low, high in zip(lowest, highest))
                if is_median(panel, whole):
                    found.append(whole)
            for one, other in zip(found, found[1:] + found[:1]):
                with self.subTest(panel=panel, one=one, other=other):
                    self.assertTrue(is_median(panel, tuple(min(parts) for parts in zip(one, other))))
                    self.assertTrue(is_median(panel, tuple(max(parts) for parts in zip(one, other))))


class TestBooks(CallCase):
    """Guarantee (i)."""

    def test_a_book_answers_as_a_new_one(self):
        source = random.Random(398)
        for panel in drawn_panels(399, 20) + list(edge_panels().values())[::4]:
            book = Book(panel)
            console = Console(book)
            for time in range(25):
                draw = source.random()
                if draw < 0.25 and len(book):
                    book.undo()
                elif draw < 0.4:
                    actions = [drawn_action(source, book.panel()) for k in range(3)]
                    try:
                        book.run(actions, on_step=answers)
                    except ValueError:
                        pass
                elif draw < 0.5:
                    book = book.copy()
                    console = Console(book)
                else:
                    action = drawn_action(source, book.panel())
                    if expected_error(book.panel(), action) is None:
                        perform(book, action)
                if time % 3 == 0:
                    with self.subTest(panel=panel, actions=book.actions()):
                        self.assertIsNone(find_fault(book.panel()))
                        self.assertEqual(answers(book), answers(Book(book.panel())))
                        self.assertEqual(console.execute("rating"), format_rating(book.rating()))
                        self.assertEqual(book, Book(parse_panel(format_panel(book.panel()))))


class TestTogether(CallCase):
    def test_changed_panels_have_changed_evidence(self):
        source = random.Random(400)
        for panel in drawn_panels(401, 30):
            best = best_rating(panel)
            size = len(panel[0])
            order = tuple(source.sample(range(size), size))
            shifted = tuple(told(value + 7) for value in numbers(best))
            with self.subTest(panel=panel):
                self.assertEqual(judge_rating(reverse_panel(panel), reverse_rating(best))[0], "best")
                self.assertEqual(judge_rating(shift_panel(panel, 7), shifted)[0], "best")
                moved = tuple(best[item] for item in order)
                self.assertEqual(judge_rating(relabel_panel(panel, order), moved)[0], "best")
                self.assertEqual(parse_rating(format_rating(best)), best)
                self.assertTrue(obeys_rules(panel, clip_rating(best, (-1, 1), (2, 1))))


if __name__ == "__main__":
    unittest.main()
