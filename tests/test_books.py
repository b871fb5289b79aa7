"""Points 48 to 51 and 54 to 56: books, their actions, undo and queries."""

import copy
import random
import unittest

from cases import CallCase, answers, sixty, snapshot
from models import ACTIONS, drawn_action, expected_error, expected_panel, perform, valid_actions
from poolmarks import books, errors
from poolmarks.books import Book
from poolmarks.errors import Full, InvalidMark, InvalidPanel, InvalidWeight, LastItem, NoSuchItem, NoSuchRule
from poolmarks.errors import NoSuchStep, NothingToUndo, TooManyActions
from poolmarks.panels import find_fault
from poolmarks.ratings import best_rating, cost_of, level_groups
from poolmarks.rules import idle_rules
from samples import CHAIN, GRID, MARK, P, SPREAD, WEIGHT
from samples import any_values, drawn_panels, edge_panels, many_panels

FULL = (SPREAD, GRID)
ONE = (((5, 3),), ())

# Values that are no integers, and integers that are no indexes, marks or weights of most panels.
STRANGE = [value for value in any_values() if type(value) is not int] + [-1, 8, 16, 10 ** 29, MARK + 1, -MARK - 1]


class BookCase(CallCase):
    def check_raises(self, error, fields, function, *arguments):
        """Check that a call raises exactly this error with exactly these fields."""
        with self.assertRaises(error) as caught:
            function(*arguments)
        self.assertIs(type(caught.exception), error)
        names = {"InvalidPanel": ("path", "reason"), "NoSuchItem": ("item",), "NoSuchRule": ("rule",),
                 "NoSuchStep": ("step",), "InvalidMark": ("mark",), "InvalidWeight": ("weight",)}
        for name, field in zip(names.get(error.__name__, ()), fields, strict=True):
            self.assertIs(getattr(caught.exception, name), field)

    def check_refused(self, book, action, error, *fields):
        """Check that an action raises this error, and that it changes nothing."""
        before = snapshot(book)
        arguments = copy.deepcopy(action)
        self.check_raises(error, fields, perform, book, action)
        self.assertEqual(action, arguments)
        self.assertEqual(snapshot(book), before)

    def check_action(self, book, action):
        """Check an action against the model; return whether it is kept."""
        panel, kept = book.panel(), book.actions()
        failure = expected_error(panel, action)
        if failure is not None:
            name, fields = failure
            self.check_refused(book, action, getattr(errors, name), *fields)
            return False
        self.assertIsNone(perform(book, action))
        self.assertEqual(book.panel(), expected_panel(panel, action))
        self.assertIsNone(find_fault(book.panel()))
        self.assertEqual(book.actions(), (*kept, action))
        return True

    def check_fresh(self, book):
        """Check guarantee (i): the queries answer as for a new book of the same panel."""
        self.assertEqual(answers(book), answers(Book(book.panel())))


class TestCreation(BookCase):
    def test_panels(self):
        for panel in many_panels(260, 20):
            book = Book(panel)
            self.assertEqual(snapshot(book), snapshot(Book(panel)))
            self.assertEqual((book.panel(), book.actions(), book.log(), len(book)), (panel, (), (), 0))

    def test_values_that_are_no_panels(self):
        wrong = [
            *[value for value in any_values() if find_fault(value) is not None],
            (), ((), ()), [((4, 1),), ()], (((4, 1),), []), ([(4, 1)], ()), (((4, 1),) * 9, ()),
            (((4, 1), (1, 1)), ((0, 1),) * 17), (((True, 1),), ()), (((4, True),), ()), (((4, 0),), ()),
            (((4, WEIGHT + 1),), ()), (((MARK + 1, 1),), ()), (((4, 1), (1, 1)), ((0, False),)),
            (((4, 1), (1, 1)), ((0, 0),)), (((4, 1), (1, 1)), ((0, 2),)), (((4, 1), (1, 1)), ([0, 1],)),
        ]
        self.assertGreater(len(wrong), 60)
        for value in wrong:
            before = copy.deepcopy(value)
            with self.subTest(value=value):
                path, reason = find_fault(value)
                with self.assertRaises(InvalidPanel) as caught:
                    Book(value)
                self.assertEqual((caught.exception.path, caught.exception.reason), (path, reason))
                self.assertEqual(value, before)


class TestActions(BookCase):
    def test_each_action_with_valid_arguments(self):
        book = Book(P)
        steps = (
            (("set_mark", 0, -MARK), (((-MARK, 1), (0, 1), (3, 2)), ((0, 1), (1, 2)))),
            (("set_weight", 2, WEIGHT), (((-MARK, 1), (0, 1), (3, WEIGHT)), ((0, 1), (1, 2)))),
            (("add_item", MARK, 1), (((-MARK, 1), (0, 1), (3, WEIGHT), (MARK, 1)), ((0, 1), (1, 2)))),
            (("add_rule", 3, 0), (((-MARK, 1), (0, 1), (3, WEIGHT), (MARK, 1)), ((0, 1), (1, 2), (3, 0)))),
            (("drop_rule", 0), (((-MARK, 1), (0, 1), (3, WEIGHT), (MARK, 1)), ((1, 2), (3, 0)))),
            (("drop_item", 1), (((-MARK, 1), (3, WEIGHT), (MARK, 1)), ((2, 0),))),
        )
        for at, (action, panel) in enumerate(steps):
            self.assertIsNone(perform(book, action))
            self.assertEqual(book.panel(), panel)
            self.assertEqual(book.actions(), tuple(action for action, panel in steps[:at + 1]))
            self.assertEqual(book.state_at(at + 1), panel)

    def test_values_of_all_kinds_in_each_place(self):
        right = {"item": 0, "low": 0, "high": 1, "rule": 0, "mark": 7, "weight": 2}
        for name, places in ACTIONS.items():
            for at in range(len(places)):
                for value in STRANGE + any_values():
                    arguments = [right[place] for place in places]
                    arguments[at] = value
                    with self.subTest(name=name, at=at, value=value):
                        self.check_action(Book(P), (name, *arguments))

    def test_true_and_false_are_no_integers(self):
        for value in (True, False):
            self.check_refused(Book(P), ("set_mark", value, 1), NoSuchItem, value)
            self.check_refused(Book(P), ("set_mark", 0, value), InvalidMark, value)
            self.check_refused(Book(P), ("set_weight", value, 1), NoSuchItem, value)
            self.check_refused(Book(P), ("set_weight", 0, value), InvalidWeight, value)
            self.check_refused(Book(P), ("add_item", value, 1), InvalidMark, value)
            self.check_refused(Book(P), ("add_item", 1, value), InvalidWeight, value)
            self.check_refused(Book(P), ("drop_item", value), NoSuchItem, value)
            self.check_refused(Book(P), ("add_rule", value, 2), NoSuchItem, value)
            self.check_refused(Book(P), ("add_rule", 2, value), NoSuchItem, value)
            self.check_refused(Book(P), ("drop_rule", value), NoSuchRule, value)

    def test_the_order_of_the_errors(self):
        for one in STRANGE[::3]:
            for other in STRANGE[1::4]:
                with self.subTest(one=one, other=other):
                    self.check_refused(Book(FULL), ("set_mark", one, other), NoSuchItem, one)
                    self.check_refused(Book(FULL), ("set_weight", one, other), NoSuchItem, one)
                    self.check_refused(Book(FULL), ("add_rule", one, other), NoSuchItem, one)
        for other in (None, True, "1", [1], MARK + 1):
            self.check_refused(Book(FULL), ("add_item", other, None), InvalidMark, other)
            self.check_refused(Book(FULL), ("set_mark", 0, other), InvalidMark, other)
        for other in (None, True, "1", [1], 0, -1, WEIGHT + 1):
            self.check_refused(Book(FULL), ("add_item", 1, other), InvalidWeight, other)
            self.check_refused(Book(FULL), ("set_weight", 0, other), InvalidWeight, other)
        self.check_refused(Book(FULL), ("add_item", 1, 1), Full)
        self.check_refused(Book(FULL), ("add_rule", 0, 8), NoSuchItem, 8)
        self.check_refused(Book(FULL), ("add_rule", 3, 3), NoSuchItem, 3)
        self.check_refused(Book(FULL), ("add_rule", 0, 1), Full)
        self.check_refused(Book(ONE), ("drop_item", 1), NoSuchItem, 1)
        self.check_refused(Book(ONE), ("drop_item", None), NoSuchItem, None)
        self.check_refused(Book(ONE), ("drop_item", 0), LastItem)
        self.check_refused(Book(ONE), ("add_rule", 0, 0), NoSuchItem, 0)
        self.check_refused(Book(ONE), ("drop_rule", 0), NoSuchRule, 0)

    def test_indexes_one_inside_and_one_beyond(self):
        for panel in (ONE, P, FULL):
            items, rules = len(panel[0]), len(panel[1])
            for index in (-2, -1, 0, items - 1, items, items + 1):
                self.check_action(Book(panel), ("set_mark", index, 1))
                self.check_action(Book(panel), ("set_weight", index, 1))
                self.check_action(Book(panel), ("drop_item", index))
                self.check_action(Book(panel), ("add_rule", index, 0))
                self.check_action(Book(panel), ("add_rule", 0, index))
            for index in (-2, -1, 0, rules - 1, rules, rules + 1):
                self.check_action(Book(panel), ("drop_rule", index))

    def test_marks_and_weights_one_inside_and_one_beyond(self):
        for mark in (-MARK - 1, -MARK, MARK, MARK + 1, 10 ** 29):
            for weight in (-1, 0, 1, WEIGHT, WEIGHT + 1):
                self.check_action(Book(P), ("set_mark", 1, mark))
                self.check_action(Book(P), ("set_weight", 1, weight))
                self.check_action(Book(P), ("add_item", mark, weight))

    def test_sizes_one_inside_and_one_beyond(self):
        book = Book(ONE)
        for size in range(2, 9):
            self.assertTrue(self.check_action(book, ("add_item", size, 1)))
            self.assertEqual(len(book.panel()[0]), size)
        self.check_refused(book, ("add_item", 1, 1), Full)
        for size in range(1, 17):
            self.assertTrue(self.check_action(book, ("add_rule", size % 8, (size + 1) % 8)))
            self.assertEqual(len(book.panel()[1]), size)
        self.check_refused(book, ("add_rule", 0, 1), Full)
        book.drop_rule(7)
        self.assertTrue(self.check_action(book, ("add_rule", 0, 1)))
        for size in range(7, 0, -1):
            self.assertTrue(self.check_action(book, ("drop_item", size // 2)))
        self.check_refused(book, ("drop_item", 0), LastItem)

    def test_an_action_that_changes_nothing_is_kept(self):
        book = Book(P)
        book.set_mark(0, 4)
        book.set_weight(2, 2)
        self.assertEqual((book.panel(), len(book)), (P, 2))
        self.assertEqual(book, Book(P))
        self.assertEqual(book.actions(), (("set_mark", 0, 4), ("set_weight", 2, 2)))

    def test_sixty_actions_are_kept(self):
        book = sixty()
        self.assertEqual(len(book), 60)
        for name, places in ACTIONS.items():
            for value in [0, 1, *STRANGE[::5]]:
                with self.subTest(name=name, value=value):
                    self.check_refused(book, (name, *[value] * len(places)), TooManyActions)
        book.undo()
        self.assertEqual(len(book), 59)
        self.check_refused(book, ("set_mark", 3, 7), NoSuchItem, 3)
        book.drop_rule(1)
        self.check_refused(book, ("drop_rule", 0), TooManyActions)
        self.check_refused(sixty(FULL), ("add_item", 1, 1), TooManyActions)
        self.check_refused(sixty(ONE), ("drop_item", 0), TooManyActions)

    def test_drawn_actions(self):
        source = random.Random(261)
        kept = 0
        for panel in [P, ONE, FULL, *drawn_panels(262, 20)]:
            book = Book(panel)
            while len(book) < 40:
                kept += self.check_action(book, drawn_action(source, book.panel(), STRANGE))
                if len(book) and source.random() < 0.15:
                    book.undo()
        self.assertGreater(kept, 800)


class TestUndo(BookCase):
    def test_to_the_beginning(self):
        for seed, panel in enumerate([P, ONE, FULL, *drawn_panels(263, 10)]):
            actions, panels = valid_actions(seed, panel, 60)
            book = Book(panel)
            for action in actions:
                perform(book, action)
            for many in range(60, 0, -1):
                self.assertEqual((book.panel(), len(book)), (panels[many], many))
                self.assertEqual(book.actions(), tuple(actions[:many]))
                self.assertIsNone(book.undo())
            self.assertEqual(snapshot(book), snapshot(Book(panel)))
            self.check_raises(NothingToUndo, (), book.undo)

    def test_nothing_to_undo(self):
        book = Book(P)
        for time in range(2):
            before = snapshot(book)
            self.check_raises(NothingToUndo, (), book.undo)
            self.assertEqual(snapshot(book), before)
        book.set_mark(0, 1)
        book.undo()
        self.check_raises(NothingToUndo, (), book.undo)

    def test_each_action_is_reverted(self):
        for action in (("set_mark", 1, 9), ("set_weight", 1, 9), ("add_item", 1, 1), ("drop_item", 1),
                       ("add_rule", 2, 0), ("drop_rule", 0)):
            book = Book(P)
            perform(book, action)
            self.assertNotEqual(book.panel(), P)
            book.undo()
            self.assertEqual(book.panel(), P)

    def test_an_action_that_was_refused_is_not_undone(self):
        book = Book(P)
        book.set_mark(0, 1)
        self.check_refused(book, ("set_mark", 0, None), InvalidMark, None)
        book.undo()
        self.assertEqual(book.panel(), P)


class TestStateAt(BookCase):
    def test_each_number_of_actions(self):
        for seed, panel in enumerate([P, ONE, FULL, *drawn_panels(264, 10)]):
            actions, panels = valid_actions(seed, panel, 30)
            book = Book(panel)
            for many, action in enumerate(actions):
                self.assertEqual([book.state_at(step) for step in range(many + 1)], panels[:many + 1])
                self.check_raises(NoSuchStep, (many + 1,), book.state_at, many + 1)
                perform(book, action)
            book.undo()
            book.undo()
            self.assertEqual([book.state_at(step) for step in range(29)], panels[:29])
            self.check_raises(NoSuchStep, (29,), book.state_at, 29)

    def test_values_of_all_kinds(self):
        book = sixty()
        before = snapshot(book)
        for value in STRANGE:
            if type(value) is int and 0 <= value <= 60:
                continue
            with self.subTest(value=value):
                self.check_raises(NoSuchStep, (value,), book.state_at, value)
        for value in (True, False, -1, 61):
            self.check_raises(NoSuchStep, (value,), book.state_at, value)
        self.assertEqual(book.state_at(60), book.panel())
        self.assertEqual(snapshot(book), before)


class TestQueries(BookCase):
    def test_they_follow_the_panel(self):
        queries = ("panel", "rating", "levels", "cost", "idle")
        source = random.Random(265)
        for seed, panel in enumerate([P, FULL, *drawn_panels(266, 12)]):
            book = Book(panel)
            for action in valid_actions(seed, panel, 25)[0]:
                # Whatever was asked before has no effect.
                for name in source.sample(queries, source.randint(0, 3)):
                    getattr(book, name)()
                perform(book, action)
                if source.random() < 0.3:
                    self.check_fresh(book)
            while len(book):
                getattr(book, source.choice(queries))()
                book.undo()
                if source.random() < 0.3:
                    self.check_fresh(book)
            self.check_fresh(book)

    def test_they_return_what_the_functions_return(self):
        for panel in many_panels(267, 15):
            book = Book(panel)
            rating = best_rating(panel)
            with self.subTest(panel=panel):
                expected = (panel, rating, level_groups(panel), cost_of(panel, rating), idle_rules(panel))
                self.assertEqual(self.call(answers, book), expected)

    def test_actions_is_a_tuple_that_does_not_change(self):
        book = Book(P)
        book.set_mark(0, 1)
        kept, panel = book.actions(), book.panel()
        book.drop_item(0)
        self.assertEqual(kept, (("set_mark", 0, 1),))
        self.assertEqual(panel, (((1, 1), (0, 1), (3, 2)), ((0, 1), (1, 2))))
        self.assertIs(type(book.actions()), tuple)
        self.assertEqual([type(action) for action in book.actions()], [tuple, tuple])

    def test_queries_change_nothing(self):
        book = sixty(FULL)
        before = snapshot(book)
        self.assertEqual(snapshot(book), before)


class TestCopies(BookCase):
    def test_the_same_answers(self):
        for seed, panel in enumerate([P, ONE, FULL, *drawn_panels(268, 10)]):
            book = Book(panel)
            for action in valid_actions(seed, panel, 20)[0]:
                perform(book, action)
            twin = book.copy()
            self.assertIs(type(twin), Book)
            self.assertIsNot(twin, book)
            self.assertEqual(twin, book)
            self.assertEqual(snapshot(twin), snapshot(book))

    def test_changed_independently(self):
        source = random.Random(269)
        for seed, panel in enumerate(drawn_panels(270, 15)):
            book = Book(panel)
            for action in valid_actions(seed, panel, 10)[0]:
                perform(book, action)
            pair = [book, book.copy()]
            for time in range(30):
                changed, other = pair if source.random() < 0.5 else pair[::-1]
                before = snapshot(other)
                if len(changed) and source.random() < 0.5:
                    changed.undo()
                else:
                    self.check_action(changed, drawn_action(source, changed.panel()))
                self.assertEqual(snapshot(other), before)
                self.check_fresh(changed)

    def test_undo_of_a_copy_goes_to_the_beginning_of_the_book(self):
        book = sixty()
        twin = book.copy()
        self.check_refused(twin, ("set_mark", 0, 0), TooManyActions)
        for time in range(60):
            twin.undo()
        self.assertEqual((twin.panel(), len(book)), (P, 60))
        self.check_raises(NothingToUndo, (), twin.undo)

    def test_a_copy_has_an_empty_log(self):
        book = Book(P)
        book.run([("set_mark", 0, 1)])
        twin = book.copy()
        self.assertEqual((twin.log(), book.log()), ((), (("begin", 1), ("end", 1))))
        twin.run(())
        self.assertEqual((twin.log(), book.log()), ((("begin", 0), ("end", 0)), (("begin", 1), ("end", 1))))

    def test_a_copy_of_a_copy(self):
        book = Book(P)
        book.set_mark(0, 1)
        twin = book.copy().copy()
        twin.undo()
        self.assertEqual((twin.panel(), len(book)), (P, 1))


class TestEquality(BookCase):
    def test_books_with_equal_panels(self):
        book, other = Book(P), Book(P)
        self.assertTrue(book == other)
        self.assertFalse(book != other)
        other.set_mark(0, 1)
        self.assertFalse(book == other)
        self.assertTrue(book != other)
        other.set_mark(0, 4)
        self.assertTrue(book == other)
        other.run(())
        self.assertTrue(book == other)
        self.assertTrue(Book((P[0], ())) != book)
        self.assertTrue(Book((P[0], P[1][::-1])) != book)
        self.assertTrue(sixty() == Book(sixty().panel()))

    def test_a_book_is_not_equal_to_anything_else(self):
        book = Book(P)
        for value in [*any_values(), P, str(book), book.rating(), book.log(), object(), Book]:
            with self.subTest(value=value):
                self.assertIs(book == value, False)
                self.assertIs(value == book, False)
                self.assertIs(book != value, True)


class TestLenAndStr(BookCase):
    def test_len(self):
        book = Book(P)
        for many in range(60):
            self.assertEqual(len(book), many)
            book.set_weight(many % 3, many + 1)
        self.assertEqual(len(book), 60)
        book.undo()
        self.assertEqual(len(book), 59)

    def test_str(self):
        self.assertEqual(str(Book(P)), "3 items, 2 rules, 0 actions")
        self.assertEqual(str(Book(ONE)), "1 items, 0 rules, 0 actions")
        self.assertEqual(str(sixty(FULL)), "8 items, 16 rules, 60 actions")
        book = Book((((4, 1), (0, 1)), ()))
        book.add_rule(1, 0)
        self.assertEqual(str(book), "2 items, 1 rules, 1 actions")
        book.drop_item(0)
        self.assertEqual(str(book), "1 items, 0 rules, 2 actions")


class TestInterface(BookCase):
    def test_the_class_is_defined_in_this_module(self):
        self.check_module(books, ("Book",))

    def test_each_method_is_defined_in_the_class(self):
        names = (*ACTIONS, "undo", "run", "log", "panel", "actions", "rating", "levels", "cost", "idle", "state_at",
                 "copy", "__init__", "__len__", "__eq__", "__str__")
        for name in names:
            self.assertIn(name, vars(Book))

    def test_no_call_takes_long(self):
        for panel in [*edge_panels().values(), (SPREAD, CHAIN)]:
            book = Book(panel)
            for query in (book.rating, book.levels, book.cost, book.idle, book.copy, book.actions):
                self.check_time(query)
        book = sixty(edge_panels()["odd limits, sixteen rules"])
        self.check_time(snapshot, book)


if __name__ == "__main__":
    unittest.main()
