"""Points 52 and 53: batches of actions, and the log of a book."""

import copy
import random
import unittest

from cases import CallCase, answers, sixty, snapshot
from models import ACTIONS, drawn_action, expected_error, expected_panel, perform, valid_actions
from poolmarks.books import Book
from poolmarks.errors import BatchFailed, Busy, InvalidBatch, LastItem, NoSuchItem, NothingToUndo, ParseError
from samples import GRID, MARK, P, SPREAD, WEIGHT
from samples import any_values, drawn_panels, edge_panels

FULL = (SPREAD, GRID)
ONE = (((5, 3),), ())
MARKS = [("set_mark", k % 3, k) for k in range(20)]

# Each of them raises an error for P.
FAILING = (
    ("set_mark", 3, 1), ("set_mark", 0, MARK + 1), ("set_mark", True, 1), ("set_mark", [0], 1), ("set_weight", 0, 0),
    ("set_weight", None, 0), ("add_item", "1", 1), ("add_item", 1, {}), ("drop_item", -1), ("drop_item", ()),
    ("add_rule", 0, 0), ("add_rule", 0, 3), ("add_rule", [], {}), ("drop_rule", 2), ("drop_rule", "0"),
)

WRONG_ENTRIES = (
    (), ("set_mark",), ("set_mark", 0), ("set_mark", 0, 1, 2), ("set_weight", 0), ("add_item", 1), ("add_item", 1, 1, 1),
    ("drop_item",), ("drop_item", 0, 1), ("add_rule", 0), ("add_rule", 0, 1, 2), ("drop_rule",), ("drop_rule", 0, 0),
    ["set_mark", 0, 1], "set_mark", {"set_mark": 1}, None, True, 7, ("undo",), ("run", []), ("copy",), ("panel",),
    ("perform", ("set_mark", 0, 1)), ("act", ("set_mark", 0, 1)), ("Set_mark", 0, 1), ("set_mark ", 0, 1), ("", 0),
    (None, 0, 1), (True, 0), (0, 0, 1), (["set_mark"], 0, 1), (("set_mark",), 0, 1), ({}, 0, 1), (("set_mark", 0, 1),),
    ("state_at", 0), ("__init__", P), ("set_mark", (0, 1)), (b"set_mark", 0, 1),
)


class Stop(Exception):
    """What an on_step of these tests raises."""


def kept_part(book):
    """Return everything that a book tells except its log."""
    told = list(snapshot(book))
    del told[7]
    return told


class BatchCase(CallCase):
    def run_batch(self, book, batch, **more):
        """Run a batch that is performed, and check that it is not modified."""
        before = copy.deepcopy(batch)
        self.assertIsNone(book.run(batch, **more))
        self.assertEqual(batch, before)

    def check_failed(self, book, batch, index, **more):
        """Check that the action at this index fails, and that the book is as before except for its log."""
        before, rows = kept_part(book), book.log()
        with self.assertRaises(BatchFailed) as caught:
            book.run(batch, **more)
        self.assertIs(type(caught.exception), BatchFailed)
        self.assertEqual(caught.exception.index, index)
        self.assertIs(type(caught.exception.index), int)
        self.assertEqual(kept_part(book), before)
        self.assertEqual(book.log(), (*rows, ("begin", len(batch)), ("end", 0))[-10:])

    def check_invalid(self, book, batch, **more):
        before = snapshot(book)
        with self.assertRaises(InvalidBatch) as caught:
            book.run(batch, **more)
        self.assertIs(type(caught.exception), InvalidBatch)
        self.assertEqual(snapshot(book), before)


class TestRun(BatchCase):
    def test_lists_and_tuples(self):
        for seed, panel in enumerate([P, ONE, FULL, *drawn_panels(280, 10)]):
            for many in (0, 1, 7, 19, 20):
                actions, panels = valid_actions(seed, panel, many)
                for batch in (actions, tuple(actions)):
                    book = Book(panel)
                    self.run_batch(book, batch)
                    self.assertEqual(book.actions(), tuple(actions))
                    self.assertEqual([book.state_at(step) for step in range(many + 1)], panels)
                    self.assertEqual(book.log(), (("begin", many), ("end", many)))
                    self.assertEqual(answers(book), answers(Book(panels[-1])))

    def test_each_action_is_kept_on_its_own(self):
        book = Book(P)
        book.run([("set_mark", 0, 1), ("drop_rule", 0), ("drop_item", 1)])
        self.assertEqual(len(book), 3)
        book.undo()
        self.assertEqual(book.actions(), (("set_mark", 0, 1), ("drop_rule", 0)))
        book.undo()
        book.undo()
        self.assertEqual(book.panel(), P)

    def test_no_action(self):
        for batch in ([], ()):
            called = []
            book = Book(P)
            self.run_batch(book, batch, on_step=called.append)
            self.assertEqual((book.log(), len(book), called), ((("begin", 0), ("end", 0)), 0, []))
            full = sixty()
            self.run_batch(full, batch)
            self.assertEqual(len(full), 60)

    def test_size(self):
        book = Book(P)
        self.run_batch(book, MARKS)
        self.assertEqual(len(book), 20)
        self.check_invalid(book, [*MARKS, ("set_mark", 0, 1)])
        self.check_invalid(book, tuple([*MARKS, ("set_mark", 0, 1)]))
        self.check_invalid(book, [("drop_rule", 9)] * 21)
        self.check_invalid(book, MARKS * 200)

    def test_values_that_are_no_batches(self):
        for value in any_values():
            if value not in ((), []):
                with self.subTest(value=value):
                    self.check_invalid(Book(P), value)
        self.check_invalid(Book(P), {"a": ("set_mark", 0, 1)})
        self.check_invalid(Book(P), ("set_mark", 0, 1))
        self.check_invalid(Book(P), Book(P))
        self.check_invalid(Book(P), Book(P).actions)

    def test_entries_that_are_no_actions(self):
        for entry in [*WRONG_ENTRIES, *any_values()]:
            for at in (0, 1, 4):
                batch = MARKS[:at] + [entry] + MARKS[at:4]
                with self.subTest(entry=entry, at=at):
                    self.check_invalid(Book(P), batch)
                    self.check_invalid(Book(P), tuple(batch))
        # The batch is invalid even if an earlier action would fail.
        self.check_invalid(Book(P), [("drop_rule", 9), ("undo",)])
        self.check_invalid(sixty(), [("set_mark", 0, 1), ("set_mark", 0)])

    def test_a_failing_action_at_each_index(self):
        for failing in FAILING:
            for at in range(0, 20, 3):
                batch = MARKS[:at] + [failing] + MARKS[at + 1:]
                with self.subTest(failing=failing, at=at):
                    book = Book(P)
                    book.drop_rule(0)
                    book.undo()
                    self.check_failed(book, batch, at)
                    self.check_failed(book, tuple(batch), at)
                    book.set_mark(0, 1)
                    self.assertEqual(len(book), 1)

    def test_actions_that_fail_because_of_earlier_ones(self):
        self.check_failed(Book(P), [("drop_item", 0)] * 3, 2)
        self.check_failed(Book(P), [("drop_rule", 0)] * 3, 2)
        self.check_failed(Book(P), [("drop_item", 2), ("set_mark", 2, 1)], 1)
        self.check_failed(Book(P), [("add_item", 1, 1)] * 6, 5)
        self.check_failed(Book(P), [("add_rule", 0, 2)] * 15, 14)
        self.check_failed(Book(P), [("drop_item", 1), ("drop_rule", 0)], 1)

    def test_actions_that_are_possible_because_of_earlier_ones(self):
        book = Book(ONE)
        self.run_batch(book, [("add_item", 1, 1), ("add_rule", 0, 1), ("drop_item", 0), ("set_mark", 0, 9)])
        self.assertEqual(book.panel(), (((9, 1),), ()))

    def test_the_sixtieth_action_and_one_more(self):
        for kept in (40, 41, 45, 59, 60):
            book = sixty()
            for time in range(60 - kept):
                book.undo()
            if kept == 40:
                self.run_batch(book, MARKS)
                self.assertEqual(len(book), 60)
            else:
                self.check_failed(book, MARKS, 60 - kept)
                self.assertEqual(len(book), kept)
        self.check_failed(sixty(), [("drop_rule", None)], 0)

    def test_too_many_actions_before_the_errors_of_the_action(self):
        book = sixty()
        book.undo()
        self.check_failed(book, [("set_mark", 0, 1), ("drop_rule", 9)], 1)
        self.check_failed(book, [("drop_rule", 9), ("set_mark", 0, 1)], 0)

    def test_drawn_batches(self):
        source = random.Random(281)
        ended = {True: 0, False: 0}
        for panel in [P, ONE, FULL, *drawn_panels(282, 30)]:
            book = Book(panel)
            while len(book) < 40:
                state, batch, index = book.panel(), [], None
                for at in range(source.randint(0, 6)):
                    action = drawn_action(source, state, (None, True, -1, "x") if source.random() < 0.2 else ())
                    batch.append(action)
                    if expected_error(state, action) is not None:
                        index = at
                        break
                    state = expected_panel(state, action)
                ended[index is None] += 1
                if index is None:
                    self.run_batch(book, batch)
                    self.assertEqual(book.panel(), state)
                else:
                    self.check_failed(book, batch, index)
        self.assertGreater(min(ended.values()), 40)


class TestOnStep(BatchCase):
    def test_it_is_called_after_each_action_with_the_same_book(self):
        for seed, panel in enumerate([P, ONE, FULL, *drawn_panels(283, 10)]):
            actions, panels = valid_actions(seed, panel, 12)
            book = Book(panel)
            seen = []

            def look(held):
                self.assertIs(held, book)
                many = len(seen) + 1
                self.assertEqual(held.actions(), tuple(actions[:many]))
                self.assertEqual([held.state_at(step) for step in range(many + 1)], panels[:many + 1])
                self.assertEqual(answers(held), answers(Book(panels[many])))
                self.assertEqual((len(held), held.log()), (many, (("begin", 12),)))
                seen.append(many)
                return seen

            self.run_batch(book, actions, on_step=look)
            self.assertEqual(seen, list(range(1, 13)))
            self.assertEqual(book.log(), (("begin", 12), ("end", 12)))

    def test_none(self):
        book = Book(P)
        self.run_batch(book, MARKS[:3], on_step=None)
        self.assertEqual(len(book), 3)

    def test_its_result_has_no_effect(self):
        for result in (None, False, True, 0, "stop", Busy(), Stop):
            book = Book(P)
            self.run_batch(book, MARKS[:3], on_step=lambda held: result)
            self.assertEqual(len(book), 3)

    def test_it_is_not_called_after_a_failing_action(self):
        for at in range(5):
            seen = []
            batch = MARKS[:at] + [("drop_rule", 9)] + MARKS[at:5]
            self.check_failed(Book(P), batch, at, on_step=lambda held: seen.append(len(held)))
            self.assertEqual(seen, list(range(1, at + 1)))

    def test_it_is_not_called_for_an_invalid_batch(self):
        seen = []
        self.check_invalid(Book(P), [*MARKS[:3], ("undo",)], on_step=seen.append)
        self.assertEqual(seen, [])

    def check_busy(self, function, *arguments, **more):
        with self.assertRaises(Busy) as caught:
            function(*arguments, **more)
        self.assertIs(type(caught.exception), Busy)

    def test_busy_before_any_other_error(self):
        values = [0, 1, None, True, "x", [], (), {}, -1, MARK + 1, 10 ** 29]
        seen = []

        def attempt(held):
            before = snapshot(held)
            for name, places in ACTIONS.items():
                for value in values:
                    self.check_busy(getattr(held, name), *[value] * len(places))
            self.check_busy(held.set_mark, 0, 1)
            self.check_busy(held.undo)
            for batch in [[], (), MARKS, MARKS * 2, [("drop_rule", 9)], *values]:
                self.check_busy(held.run, batch)
                self.check_busy(held.run, batch, on_step=attempt)
            self.assertEqual(snapshot(held), before)
            seen.append(len(held))

        for panel in (P, ONE, FULL):
            seen.clear()
            book = Book(panel)
            self.run_batch(book, [("set_mark", 0, k) for k in range(4)], on_step=attempt)
            self.assertEqual(seen, [1, 2, 3, 4])
            self.assertEqual(book.log(), (("begin", 4), ("end", 4)))
        book = sixty()
        book.undo()
        self.run_batch(book, MARKS[:1], on_step=attempt)
        self.assertEqual((seen[-1], len(book)), (60, 60))

    def test_no_longer_busy_afterwards(self):
        book = Book(P)
        self.run_batch(book, MARKS[:2], on_step=snapshot)
        book.set_mark(0, 9)
        book.undo()
        self.run_batch(book, MARKS[:2], on_step=snapshot)
        self.check_failed(book, [("set_mark", 0, 1), ("drop_rule", 9)], 1, on_step=snapshot)
        book.set_mark(0, 9)
        self.assertEqual(len(book), 5)

    def test_another_book_is_not_busy(self):
        other = Book(P)

        def change(held):
            other.set_mark(0, len(held))
            other.run([("set_weight", 0, len(held))])

        book = Book(P)
        self.run_batch(book, MARKS[:3], on_step=change)
        self.assertEqual((len(book), len(other)), (3, 6))

    def test_copies_during_a_batch(self):
        twins = []
        book = Book(P)
        book.run([("set_weight", 0, 7)])

        def keep(held):
            twin = held.copy()
            self.assertEqual(twin, held)
            self.assertEqual((twin.actions(), twin.log()), (held.actions(), ()))
            self.assertEqual(kept_part(twin), kept_part(held))
            twins.append((twin, kept_part(twin)))
            again = held.copy()
            again.undo()
            again.set_mark(1, 77)
            again.run(MARKS[:2], on_step=lambda inner: inner.copy().undo())

        self.run_batch(book, MARKS[:3], on_step=keep)
        for many, (twin, told) in enumerate(twins):
            self.assertEqual(kept_part(twin), told)
            self.assertEqual(len(twin), many + 2)
            while len(twin):
                twin.undo()
            self.assertEqual(twin.panel(), P)
        self.assertEqual(len(book), 4)

    def test_an_error_leaves_the_book_as_before(self):
        kinds = [Stop, ValueError, LookupError, NoSuchItem, LastItem, Busy, BatchFailed, InvalidBatch, KeyboardInterrupt,
                 ParseError, GeneratorExit, SystemExit]
        for kind in kinds:
            for at in (1, 2, 5):
                book = Book(P)
                book.set_mark(2, 8)
                before = kept_part(book)
                error = kind() if kind not in (NoSuchItem, BatchFailed, ParseError) else kind(1)

                def stop(held):
                    if len(held) == at + 1:
                        raise error

                with self.subTest(kind=kind, at=at):
                    with self.assertRaises(kind) as caught:
                        book.run(MARKS[:5], on_step=stop)
                    self.assertIs(caught.exception, error)
                    self.assertEqual(kept_part(book), before)
                    self.assertEqual(book.log(), (("begin", 5), ("end", 0)))
                    book.set_mark(2, 9)
                    self.run_batch(book, MARKS[:5])
                    book.undo()
                    self.assertEqual(len(book), 6)
                    self.assertEqual(answers(book), answers(Book(book.panel())))

    def test_an_uncaught_busy_error_ends_the_batch(self):
        book = Book(P)
        with self.assertRaises(Busy):
            book.run(MARKS[:3], on_step=lambda held: held.set_mark(0, 5))
        self.assertEqual((book.panel(), len(book), book.log()), (P, 0, (("begin", 3), ("end", 0))))
        with self.assertRaises(Busy):
            book.run(MARKS[:3], on_step=lambda held: held.run([]))
        self.assertEqual(book.log(), (("begin", 3), ("end", 0)) * 2)

    def test_the_batch_is_read_once(self):
        def clear(held):
            batch.clear()

        def add(held):
            batch.append(("drop_rule", 9))

        def spoil(held):
            batch[:] = [None] * 5

        for change in (clear, add, spoil):
            batch = MARKS[:4]
            book = Book(P)
            book.run(batch, on_step=change)
            self.assertEqual(book.actions(), tuple(MARKS[:4]))
            self.assertEqual(book.log(), (("begin", 4), ("end", 4)))

    def test_queries_during_a_batch_have_no_effect_on_later_ones(self):
        for seed, panel in enumerate(drawn_panels(284, 10)):
            actions, panels = valid_actions(seed, panel, 8)
            book = Book(panel)
            with self.assertRaises(Stop):
                def stop(held):
                    answers(held)
                    if len(held) == 5:
                        raise Stop()
                book.run(actions, on_step=stop)
            self.assertEqual(answers(book), answers(Book(panel)))
            book.run(actions, on_step=answers)
            self.assertEqual(answers(book), answers(Book(panels[-1])))


class TestLog(BatchCase):
    def test_the_last_ten_rows(self):
        book = Book(P)
        rows = []
        for time in range(12):
            many = time % 4
            book.run(MARKS[:many])
            rows += [("begin", many), ("end", many)]
            self.assertEqual(book.log(), tuple(rows[-10:]))
            self.assertIs(type(book.log()), tuple)
            with self.assertRaises(BatchFailed):
                book.run([("set_mark", 0, 1), ("drop_rule", 9)])
            rows += [("begin", 2), ("end", 0)]
            self.assertEqual(book.log(), tuple(rows[-10:]))

    def test_ten_rows_during_a_batch(self):
        book = Book(P)
        seen = []
        rows = []
        for time in range(8):
            book.run([("set_mark", 0, time)], on_step=lambda held: seen.append(held.log()))
            self.assertEqual(seen[-1], tuple([*rows, ("begin", 1)][-10:]))
            rows += [("begin", 1), ("end", 1)]

    def test_nothing_else_adds_rows(self):
        book = Book(P)
        for seed in range(3):
            for action in valid_actions(seed, book.panel(), 10)[0]:
                perform(book, action)
        book.undo()
        for batch in (None, MARKS * 2, [()]):
            self.check_invalid(book, batch)
        with self.assertRaises(NoSuchItem):
            book.set_mark(99, 1)
        snapshot(book.copy())
        self.assertEqual(book.log(), ())
        while len(book):
            book.undo()
        with self.assertRaises(NothingToUndo):
            book.undo()
        self.assertEqual(book.log(), ())

    def test_undo_leaves_the_log(self):
        book = Book(P)
        book.run(MARKS[:2])
        book.undo()
        book.undo()
        self.assertEqual(book.log(), (("begin", 2), ("end", 2)))

    def test_a_returned_log_does_not_change(self):
        book = Book(P)
        book.run(())
        rows = book.log()
        book.run(MARKS[:1])
        self.assertEqual(rows, (("begin", 0), ("end", 0)))


class TestTime(BatchCase):
    def test_no_call_takes_long(self):
        for panel in edge_panels().values():
            batch = [("set_mark", 0, k) for k in range(10)] + [("set_weight", 0, WEIGHT - k) for k in range(10)]
            self.check_time(lambda: Book(panel).run(batch, on_step=Book.rating))


if __name__ == "__main__":
    unittest.main()
