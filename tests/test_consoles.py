"""Points 60 and 61: commands on a book, and the transcript of a console."""

import math
import random
import re
import unittest

from cases import CallCase, sixty, snapshot
from models import ACTIONS, drawn_action, perform, valid_actions
from poolmarks import consoles
from poolmarks.books import Book
from poolmarks.consoles import Console
from poolmarks.growth import mark_to_reach
from poolmarks.ratings import best_rating
from poolmarks.texts import format_fraction, format_rating
from poolmarks.thresholds import top_sets
from samples import GRID, MARK, P, SPREAD, WEIGHT
from samples import any_values, drawn_panels, edge_panels, known_panels

FULL = (SPREAD, GRID)
ONE = (((5, 3),), ())

# The word of the console for each action.
WORDS = {
    "set_mark": "mark", "set_weight": "weight", "add_item": "item", "drop_item": "drop", "add_rule": "rule",
    "drop_rule": "unrule",
}
QUERIES = ("rating", "cost", "idle", "above 2", "above 5/2", "from 2", "from 5/2", "reach 0 1 3", "reach 2 0 3")
RIGHT = (
    "mark 0 1", "weight 0 2", "item 5 1", "drop 0", "rule 2 0", "unrule 1", "undo", *QUERIES,
    "mark 0 -7", "above -1/3", "from 0", "reach 0 2 -22/7", "drop 99", "mark -1 -1",
)

INTEGER = "(?:0|-?[1-9][0-9]{0,12})"
FRACTION = f"({INTEGER})(?:/([1-9][0-9]{{0,12}}))?"
FORMS = re.compile(
    f"(?:mark|weight|item|rule) {INTEGER} {INTEGER}|(?:drop|unrule) {INTEGER}|undo|rating|cost|idle"
    f"|(?:above|from|reach {INTEGER} {INTEGER}) (?P<fraction>{FRACTION})"
)

WRONG_NUMBERS = (
    "", "-", "+", "00", "01", "-01", "-0", "+0", "+1", "1.0", "1e3", "1_0", "0x1", "a", "1a", "--1", "1-", "-1-", "N", "None",
    "True", "\t1", "1\t", "1\n", "\n1", "\u0661", "\u00b2", "\u2212" + "1", "1,2", "(1)", "10000000000000", "-10000000000000",
    "9" * 14, "-" + "9" * 14, "1" + "0" * 300, "9" * 390, "0000000000001",
)
WRONG_FRACTIONS = (
    *WRONG_NUMBERS, "1/", "/2", "1/0", "0/1", "0/2", "1/1", "2/4", "6/3", "-2/4", "1/-2", "+1/2", "1/+2", "01/2", "1/02",
    "-0/2", "1//2", "1/2/3", "1/ 2", "1 /2", "1/2 ", "10000000000000/3", "1/10000000000000", "3/" + "1" + "0" * 13,
    "-10000000000001/2", "1/" + "9" * 14, "FRACTION",
)
LONGEST = "9999999999999"


def is_command(line):
    """Return whether a text is a command by point 60."""
    found = FORMS.fullmatch(line)
    if found is None:
        return False
    if found["fraction"] is None or "/" not in found["fraction"]:
        return True
    top, bottom = found["fraction"].split("/")
    return int(bottom) > 1 and math.gcd(int(top), int(bottom)) == 1


def indexes(group):
    return " ".join([f"{item}" for item in group]) or "-"


class ConsoleCase(CallCase):
    def execute(self, console, line):
        """Return the result of a line, which is also the last one of the transcript."""
        result = console.execute(line)
        self.assertIs(type(result), str)
        shown = line if isinstance(line, str) else None
        self.assertEqual(console.transcript()[-1], (shown, result))
        return result

    def check_unknown(self, line, panel=P):
        book = Book(panel)
        before = snapshot(book)
        self.assertEqual(self.execute(Console(book), line), "unknown")
        self.assertEqual(snapshot(book), before)

    def check_known(self, line, panel=P):
        self.assertNotEqual(self.execute(Console(Book(panel)), line), "unknown")

    def check_line(self, line):
        """Check whether a text is taken as a command."""
        if is_command(line):
            self.check_known(line)
        else:
            self.check_unknown(line)
        return is_command(line)

    def check_error(self, panel, line, name):
        book = Book(panel)
        before = snapshot(book)
        self.assertEqual(self.execute(Console(book), line), f"error {name}")
        self.assertEqual(snapshot(book), before)


class TestActions(ConsoleCase):
    def test_each_action(self):
        for line, action in (
            ("mark 0 -7", ("set_mark", 0, -7)), ("weight 2 1000000", ("set_weight", 2, WEIGHT)),
            ("item -1000000000 3", ("add_item", -MARK, 3)), ("drop 1", ("drop_item", 1)), ("rule 2 0", ("add_rule", 2, 0)),
            ("unrule 0", ("drop_rule", 0)),
        ):
            book, other = Book(P), Book(P)
            self.assertEqual(self.execute(Console(book), line), "done")
            perform(other, action)
            self.assertEqual(snapshot(book), snapshot(other))
            self.assertEqual(book.actions(), (action,))
            self.assertEqual(Console(book).execute("undo"), "done")
            self.assertEqual(snapshot(book), snapshot(Book(P)))

    def test_each_error(self):
        for panel, line, name in (
            (P, "mark 3 7", "NoSuchItem"), (P, "mark -1 7", "NoSuchItem"), (P, f"mark 3 {MARK + 1}", "NoSuchItem"),
            (P, f"mark 0 {MARK + 1}", "InvalidMark"), (P, f"mark 0 {-MARK - 1}", "InvalidMark"),
            (P, f"mark 0 {LONGEST}", "InvalidMark"), (P, f"mark {LONGEST} 0", "NoSuchItem"),
            (P, "weight 3 0", "NoSuchItem"), (P, "weight 0 0", "InvalidWeight"), (P, "weight 0 -1", "InvalidWeight"),
            (P, f"weight 0 {WEIGHT + 1}", "InvalidWeight"), (P, f"item {MARK + 1} 0", "InvalidMark"),
            (P, "item 0 0", "InvalidWeight"), (FULL, "item 0 0", "InvalidWeight"), (FULL, "item 0 1", "Full"),
            (P, "drop 3", "NoSuchItem"), (ONE, "drop 0", "LastItem"), (ONE, "drop 1", "NoSuchItem"),
            (P, "rule 0 0", "NoSuchItem"), (P, "rule 3 0", "NoSuchItem"), (P, "rule 0 3", "NoSuchItem"),
            (FULL, "rule 0 1", "Full"), (FULL, "rule 0 8", "NoSuchItem"), (P, "unrule 2", "NoSuchRule"),
            (P, "unrule -1", "NoSuchRule"), (ONE, "unrule 0", "NoSuchRule"), (P, "undo", "NothingToUndo"),
            (P, "reach 3 0 1", "NoSuchItem"), (P, "reach 0 3 1", "NoSuchItem"), (P, "reach -1 -1 1/2", "NoSuchItem"),
            (ONE, f"reach 0 {LONGEST} 1", "NoSuchItem"), (ONE, f"reach -{LONGEST} 0 1", "NoSuchItem"),
        ):
            with self.subTest(line=line):
                self.check_error(panel, line, name)

    def test_an_action_beyond_the_sixtieth(self):
        book = sixty()
        console = Console(book)
        before = snapshot(book)
        for line in ("mark 0 1", "mark 9 1", "weight 0 0", "item 0 0", "drop 9", "rule 0 0", "unrule 9"):
            self.assertEqual(self.execute(console, line), "error TooManyActions")
        self.assertEqual(self.execute(console, "marks 0 1"), "unknown")
        self.assertEqual(self.execute(console, "rating"), format_rating(book.rating()))
        self.assertEqual(snapshot(book), before)
        self.assertEqual(self.execute(console, "undo"), "done")
        self.assertEqual(self.execute(console, "mark 0 1"), "done")
        self.assertEqual(self.execute(console, "mark 0 1"), "error TooManyActions")

    def test_drawn_actions(self):
        source = random.Random(360)
        errors = 0
        for panel in [P, ONE, FULL, *drawn_panels(361, 20)]:
            book, other = Book(panel), Book(panel)
            console = Console(book)
            for time in range(50):
                if source.random() < 0.2:
                    line, action = "undo", ("undo",)
                else:
                    action = drawn_action(source, book.panel(), (-1, 0, 9, MARK + 1))
                    line = " ".join([WORDS[action[0]], *[f"{part}" for part in action[1:]]])
                expected = "done"
                try:
                    perform(other, action)
                except (ValueError, LookupError) as error:
                    expected = f"error {type(error).__name__}"
                    errors += 1
                with self.subTest(panel=panel, line=line):
                    self.assertEqual(self.execute(console, line), expected)
                    self.assertEqual((book.panel(), book.actions()), (other.panel(), other.actions()))
            self.assertEqual(snapshot(book), snapshot(other))
        self.assertGreater(errors, 100)

    def test_an_action_adds_no_row_to_the_log(self):
        book = Book(P)
        Console(book).execute("mark 0 1")
        self.assertEqual(book.log(), ())


class TestQueries(ConsoleCase):
    def test_drawn_panels(self):
        for panel in [P, ONE, FULL, *drawn_panels(362, 25), *edge_panels().values()]:
            book = Book(panel)
            console = Console(book)
            before = snapshot(book)
            last = len(panel[0]) - 1
            with self.subTest(panel=panel):
                self.assertEqual(self.execute(console, "rating"), format_rating(book.rating()))
                self.assertEqual(self.execute(console, "cost"), format_fraction(book.cost()))
                self.assertEqual(self.execute(console, "idle"), indexes(book.idle()))
                values = [value for value in book.rating() if abs(value[0]) < 10 ** 13 and value[1] < 10 ** 13]
                for value in [*values, (0, 1), (5, 2), (-7, 3), (MARK, 1), (10 ** 13 - 1, 10 ** 12)]:
                    text = format_fraction(value)
                    above, not_below = top_sets(panel, value)
                    self.assertEqual(self.execute(console, f"above {text}"), indexes(above))
                    self.assertEqual(self.execute(console, f"from {text}"), indexes(not_below))
                    for item, watched in ((0, 0), (0, last), (last, 0)):
                        answer = mark_to_reach(panel, item, watched, value)
                        expected = format_fraction(answer[1]) if answer[0] == "from" else answer[0]
                        self.assertEqual(self.execute(console, f"reach {item} {watched} {text}"), expected)
                self.assertEqual(snapshot(book), before)

    def test_known_results(self):
        known = {
            "rating": "2 2 3", "cost": "8", "idle": "1", "above 2": "2", "from 2": "0 1 2", "above 3": "-", "from 3": "2",
            "above 1": "0 1 2", "from 7/2": "-", "above 5/2": "2", "reach 0 1 3": "6", "reach 2 0 3": "never",
            "reach 0 2 1": "always", "reach 0 1 7/3": "14/3", "reach 0 1 -1/2": "always", "reach 0 0 -1/2": "-1/2",
        }
        for line, result in known.items():
            with self.subTest(line=line):
                self.assertEqual(self.execute(Console(Book(P)), line), result)
        console = Console(Book((((1, 2), (0, 1)), ((0, 1),))))
        self.assertEqual([console.execute(line) for line in ("rating", "cost", "idle")], ["2/3 2/3", "2/3", "-"])
        console = Console(Book(ONE))
        self.assertEqual([console.execute(line) for line in ("rating", "cost", "idle")], ["5", "0", "-"])

    def test_ratings_that_are_known(self):
        for panel, rating in known_panels(363, 30):
            self.assertEqual(Console(Book(panel)).execute("rating"), format_rating(rating))


class TestUnknown(ConsoleCase):
    def test_right_lines(self):
        for line in RIGHT:
            with self.subTest(line=line):
                self.assertTrue(is_command(line))
                self.check_known(line)

    def test_spaces_and_breaks(self):
        for line in RIGHT:
            for wrong in (f" {line}", f"{line} ", f"{line}\n", f"\n{line}", f"\t{line}", line.upper(), line.title(),
                          f"{line} 1", f"{line} x", f"1 {line}", f"{line}\nundo", f"{line};", f"{line}\r", line + "\x00"):
                with self.subTest(wrong=wrong):
                    self.check_unknown(wrong)
            if " " in line:
                self.check_unknown(line.replace(" ", "  ", 1))
                self.check_unknown(line.replace(" ", "\t", 1))
                self.check_unknown(line.replace(" ", "\n", 1))
                self.check_unknown(line.replace(" ", "", 1))

    def test_words_missing_repeated_exchanged_or_added(self):
        for line in RIGHT:
            words = line.split(" ")
            for at in range(len(words)):
                for parts in (words[:at] + words[at + 1:], words[:at] + [words[at]] + words[at:],
                              words[at:] + words[:at], words[:at] + ["0"] + words[at:], words[:at] + [""] + words[at:],
                              words[:at] + ["undo"] + words[at:], words[::-1]):
                    with self.subTest(line=line, parts=parts):
                        self.check_line(" ".join(parts))

    def test_words_that_are_no_commands(self):
        for line in ("", " ", "-", "done", "unknown", "set_mark 0 1", "add_item 0 1", "drop_item 0", "run", "copy", "log",
                     "panel", "levels", "actions", "state_at 0", "always", "help", "exit", "marks 0 1", "mark", "mark 0",
                     "weight", "item", "item 1", "drop", "rule", "rule 0", "unrule", "undo 1", "rating 0", "cost 1",
                     "idle 0", "above", "from", "above 1 2", "from 1 2", "reach", "reach 0", "reach 0 1", "reach 0 1 2 3",
                     "error NoSuchItem", "redo", "__init__", "N", "mark N N"):
            with self.subTest(line=line):
                self.check_unknown(line)

    def test_wrong_numbers_in_each_place(self):
        for word in WRONG_NUMBERS:
            for line in (f"mark {word} 1", f"mark 0 {word}", f"weight {word} 1", f"weight 0 {word}", f"item {word} 1",
                         f"item 1 {word}", f"drop {word}", f"rule {word} 1", f"rule 0 {word}", f"unrule {word}",
                         f"reach {word} 0 1", f"reach 0 {word} 1"):
                with self.subTest(line=line):
                    self.check_unknown(line)
        for word in ("1/2", "-3/2", "0/1", "4/1"):
            for line in (f"mark {word} 1", f"mark 0 {word}", f"drop {word}", f"reach {word} 0 1", f"reach 0 {word} 1"):
                self.check_unknown(line)

    def test_wrong_fractions(self):
        for word in WRONG_FRACTIONS:
            for line in (f"above {word}", f"from {word}", f"reach 0 1 {word}"):
                with self.subTest(line=line):
                    self.check_unknown(line)

    def test_13_and_14_digits(self):
        for sign in ("", "-"):
            for word in (LONGEST, "1000000000000"):
                for line in (f"mark {sign}{word} 1", f"mark 0 {sign}{word}", f"item {sign}{word} 1", f"drop {sign}{word}",
                             f"unrule {sign}{word}", f"rule 0 {sign}{word}", f"weight 0 {sign}{word}",
                             f"above {sign}{word}", f"from {sign}{word}/7", f"above {sign}1/{word}",
                             f"reach {sign}{word} 0 1", f"reach 0 {sign}{word} 1", f"reach 0 1 {sign}{word}",
                             f"reach 0 1 {sign}1/{word}", f"reach 0 1 {sign}{LONGEST}/1000000000000"):
                    with self.subTest(line=line):
                        self.assertTrue(is_command(line))
                        self.check_known(line)
                        self.check_unknown(line.replace(word, word + "0"))
                        self.check_unknown(line.replace(word, "1" + word))

    def test_small_fractions(self):
        for top in range(-7, 8):
            for bottom in range(-1, 8):
                self.check_line(f"above {top}/{bottom}")
                self.check_line(f"reach 0 1 {top}/{bottom}")

    def test_changed_characters(self):
        source = random.Random(364)
        seen = {True: 0, False: 0}
        for time in range(1500):
            characters = list(source.choice(RIGHT))
            for change in range(source.randint(1, 2)):
                at = source.randrange(len(characters) + 1)
                some = source.choice("0123456789-/ +\nabcdeiklmnorstuw")
                characters[at:at + source.randint(0, 1)] = source.choice(([], [some]))
            line = "".join(characters)
            with self.subTest(line=line):
                seen[self.check_line(line)] += 1
        self.assertGreater(min(seen.values()), 150)

    def test_values_that_are_not_texts(self):
        for value in [*any_values(), b"rating", ["rating"], ("undo",), Book(P)]:
            with self.subTest(value=value):
                self.check_unknown(value)


class TestBook(ConsoleCase):
    def test_two_consoles_of_one_book(self):
        book = Book(P)
        one, other = Console(book), Console(book)
        self.assertEqual(one.execute("mark 0 1"), "done")
        self.assertEqual(other.execute("rating"), "1/2 1/2 3")
        self.assertEqual(other.execute("undo"), "done")
        self.assertEqual(one.execute("rating"), "2 2 3")
        self.assertEqual(one.transcript(), (("mark 0 1", "done"), ("rating", "2 2 3")))
        self.assertEqual(other.transcript(), (("rating", "1/2 1/2 3"), ("undo", "done")))

    def test_the_book_changed_by_its_own_methods(self):
        for seed, panel in enumerate(drawn_panels(365, 10)):
            book = Book(panel)
            console = Console(book)
            for action in valid_actions(seed, panel, 12)[0]:
                console.execute("rating")
                console.execute("idle")
                perform(book, action)
                self.assertEqual(console.execute("rating"), format_rating(best_rating(book.panel())))
                self.assertEqual(console.execute("idle"), indexes(Book(book.panel()).idle()))
            book.undo()
            self.assertEqual(console.execute("rating"), format_rating(best_rating(book.panel())))
            book.run([("set_mark", 0, 3)])
            self.assertEqual(console.execute("rating"), format_rating(best_rating(book.panel())))

    def test_a_copy_of_the_book_is_another_book(self):
        book = Book(P)
        console = Console(book.copy())
        self.assertEqual(console.execute("mark 0 1"), "done")
        self.assertEqual(book.panel(), P)

    def test_creating_a_console_changes_nothing(self):
        book = sixty()
        before = snapshot(book)
        Console(book)
        self.assertEqual(snapshot(book), before)

    def test_during_a_batch(self):
        book = Book(P)
        console = Console(book)
        seen = []

        def look(held):
            before = snapshot(held)
            for line in ("mark 0 1", "mark 9 1", "weight 0 0", "item 0 0", "drop 9", "rule 0 0", "unrule 9", "undo"):
                self.assertEqual(self.execute(console, line), "error Busy")
            self.assertEqual(self.execute(console, "mark 0"), "unknown")
            self.assertEqual(self.execute(console, "rating"), format_rating(best_rating(held.panel())))
            self.assertEqual(self.execute(console, "reach 9 0 1"), "error NoSuchItem")
            self.assertEqual(self.execute(Console(held), "cost"), format_fraction(held.cost()))
            self.assertEqual(snapshot(held), before)
            seen.append(len(held))

        book.run([("set_mark", 0, 9), ("drop_rule", 1), ("set_weight", 2, 7)], on_step=look)
        self.assertEqual(seen, [1, 2, 3])
        self.assertEqual(self.execute(console, "undo"), "done")
        self.assertEqual(len(book), 2)


class TestTranscript(ConsoleCase):
    def test_the_last_twenty_pairs(self):
        console = Console(Book(P))
        pairs = []
        self.assertEqual(console.transcript(), ())
        for at, line in enumerate([f"mark 0 {k}" for k in range(18)] + ["undo", "x", None, "rating", "undo\n", 7] * 5):
            result = console.execute(line)
            pairs.append((line if isinstance(line, str) else None, result))
            self.assertEqual(console.transcript(), tuple(pairs[-20:]))
            self.assertEqual(len(console.transcript()), min(at + 1, 20))
            self.assertIs(type(console.transcript()), tuple)

    def test_values_that_are_not_texts(self):
        for value in any_values():
            console = Console(Book(P))
            console.execute(value)
            line = value if isinstance(value, str) else None
            self.assertEqual(console.transcript(), ((line, "unknown"),))

    def test_a_returned_tuple_does_not_change(self):
        console = Console(Book(P))
        console.execute("rating")
        before = console.transcript()
        for time in range(30):
            console.execute("cost")
        self.assertEqual(before, (("rating", "2 2 3"),))
        self.assertEqual(console.transcript(), (("cost", "8"),) * 20)

    def test_a_new_console_has_none(self):
        book = Book(P)
        Console(book).execute("rating")
        self.assertEqual(Console(book).transcript(), ())


class TestInterface(ConsoleCase):
    def test_the_class_is_defined_in_this_module(self):
        self.check_module(consoles, ("Console",))
        for name in ("__init__", "execute", "transcript"):
            self.assertIn(name, vars(Console))

    def test_each_action_has_a_word(self):
        self.assertEqual(set(WORDS), set(ACTIONS))

    def test_no_call_takes_long(self):
        for name, panel in edge_panels().items():
            console = Console(Book(panel))
            for line in (*QUERIES, f"reach 0 0 {LONGEST}/1000000000000", "9" * 400, "above " + "9" * 390, " " * 400):
                with self.subTest(name=name, line=line):
                    self.check_time(console.execute, line)


if __name__ == "__main__":
    unittest.main()
