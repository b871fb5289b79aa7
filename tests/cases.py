"""What several tests check in the same way."""

import copy
import time
import unittest

from poolmarks.books import Book
from samples import P

# A call that needs seconds has gone wrong; the slowest ones need some hundredths.
SECONDS = 2


def answers(book):
    """Return what a book answers to the queries that depend on its panel only."""
    return (book.panel(), book.rating(), book.levels(), book.cost(), book.idle())


def snapshot(book):
    """Return everything that a book tells."""
    states = tuple(book.state_at(step) for step in range(len(book) + 1))
    return (*answers(book), book.actions(), states, book.log(), len(book), str(book))


def sixty(panel=P):
    """Return a book that keeps as many actions as it may."""
    book = Book(panel)
    for step in range(60):
        book.set_mark(step % len(panel[0]), step)
    return book


class CallCase(unittest.TestCase):
    def call(self, function, *arguments):
        """Return the result of a call that modifies nothing and can be repeated."""
        before = copy.deepcopy(arguments)
        first = function(*arguments)
        second = function(*arguments)
        self.assertEqual(first, second)
        self.assertEqual(arguments, before)
        return first

    def check_time(self, function, *arguments):
        start = time.perf_counter()
        function(*arguments)
        self.assertLess(time.perf_counter() - start, SECONDS)

    def check_fraction(self, value):
        self.assertIs(type(value), tuple)
        self.assertEqual([type(part) for part in value], [int, int])

    def check_fractions(self, value, many):
        self.assertIs(type(value), tuple)
        self.assertEqual(len(value), many)
        for part in value:
            self.check_fraction(part)

    def check_group(self, value):
        self.assertIs(type(value), tuple)
        self.assertEqual(list(value), sorted(set(value)))
        for part in value:
            self.assertIs(type(part), int)

    def check_module(self, module, names):
        for name in names:
            with self.subTest(name=name):
                self.assertEqual(getattr(module, name).__module__, module.__name__)
