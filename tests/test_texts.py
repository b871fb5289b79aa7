"""Points 57 to 59: texts of fractions, ratings and panels, written and read."""

import math
import random
import re
import unittest

from cases import CallCase
from poolmarks import texts
from poolmarks.errors import ParseError
from poolmarks.texts import format_fraction, format_panel, format_rating, parse_panel, parse_rating
from samples import CHAIN, GRID, MARK, P, ROUND, SPREAD, WEIGHT
from samples import any_values, drawn_fractions, drawn_panels, edge_panels, edge_thresholds, many_panels
from samples import mixed_fractions

INTEGER = re.compile("0|-?[1-9][0-9]*")

# Words that are not the text of any fraction.
WRONG_WORDS = (
    "", "-", "+", "/", "-/", "1/", "/2", "-/2", "1//2", "1/2/3", "--1", "-+1", "1-", "1-2", "1/-2", "1/+2", "-1/-2",
    "00", "01", "-01", "-00", "-0", "+0", "+1", "+1/2", "01/2", "1/02", "-0/2", "0/2", "0/1", "1/1", "-3/1", "7/1",
    "1/0", "0/0", "-1/0", "2/4", "-2/4", "6/3", "10/4", "3/3", "100000000000000/2",
    "1.5", "1e5", "0x1", "1_0", "1,0", "(1, 2)", "one", "None", "True", "a", "1a", "a1", "1/a", "a/2",
    "\t1", "1\t", "1\n", "\n", "1\n2", "1\r", "\u00b2", "\u0661", "1\u0662", "1/\u0662", "\uff11", "\u2212" + "1", "\u00bd",
)

WRONG_LINES = (
    "", " ", "item", "rule", "item 1", "rule 0", "item 1 1 1", "rule 0 1 0", " item 1 1", "item 1 1 ", "item  1 1",
    "item 1  1", "item\t1 1", "item 1\t1", "Item 1 1", "ITEM 1 1", "items 1 1", "1 1", "item 1 1\r", "item 1,1",
    "item 1/2 1", "item 1 1/2", "item 4/1 1", "item 01 1", "item 1 01", "item -0 1", "item +1 1", "item 1 +1",
    "item 1 0", "item 1 -1", "item 1 -0", "item 0 00", "item \u0661 1", "item 1 \u0661", "item \u00b2 1", "item a 1",
    "item 1 a", "item  1", "item 1 ", "item - 1", "item 1.0 1", "item 1_0 1",
    f"item {MARK + 1} 1", f"item {-MARK - 1} 1", f"item 0 {WEIGHT + 1}", f"item {10 ** 29} 1", f"item 0 {10 ** 29}",
    "item " + "9" * 3900 + " 1", "item -" + "9" * 3900 + " 1", "item 1 " + "9" * 3900, "item 1 1" + "0" * 3900,
    "item " + "0" * 3000 + "1 1", "rule 0 " + "1" * 3900, "rule 1" + "0" * 3900 + " 0",
    "rule 0 0", "rule 1 1", "rule -1 0", "rule 0 -1", "rule 0 8", "rule 8 0", "rule 0 9", "rule 00 1", "rule 0 01",
    "rule -0 1", "rule 0 -0", "rule +0 1", "rule 0 1/2", "rule a 1", "rule 0 a", "rule  0 1", "rule 0  1", "rule 0 1 ",
    "rule\t0 1", "Rule 0 1", "rule", "comment", "# item 1 1", "None",
)


def is_fraction_word(word):
    """Return whether a word is the text of a fraction by point 57."""
    found = re.fullmatch("(0|-?[1-9][0-9]*)(?:/([1-9][0-9]*))?", word)
    if found is None or "\n" in word:
        return False
    top, bottom = found.groups()
    return bottom is None or (int(bottom) > 1 and math.gcd(int(top), int(bottom)) == 1)


def rating_place(text):
    """Return the index of the first word that is not the text of a fraction, or None."""
    for at, word in enumerate(text.split(" ")):
        if not is_fraction_word(word):
            return at
    return None


def panel_place(text):
    """Return the place by point 59 at which a text is not that of a panel, or None."""
    lines = text.split("\n")
    ended = lines[-1] == ""
    if ended:
        lines.pop()
    for at in range(len(lines)):
        if not begins_a_panel(lines[:at + 1]):
            return at
    return None if ended and lines else len(lines)


def begins_a_panel(lines):
    """Return whether the lines are texts of valid items, then of valid rules between them."""
    kinds = [line.split(" ")[0] for line in lines]
    items, rules = kinds.count("item"), kinds.count("rule")
    if kinds != ["item"] * items + ["rule"] * rules or items > 8 or rules > 16:
        return False
    for line in lines:
        kind, *words = line.split(" ")
        if len(words) != 2 or not all(INTEGER.fullmatch(word) and "\n" not in word for word in words):
            return False
        if any(len(word) > 12 for word in words):
            return False
        one, other = int(words[0]), int(words[1])
        if kind == "item" and not (-MARK <= one <= MARK and 1 <= other <= WEIGHT):
            return False
        if kind == "rule" and not (0 <= one < items and 0 <= other < items and one != other):
            return False
    return True


def changed_lists(source, parts, others):
    """Return lists in which one part is removed, repeated, exchanged or replaced, or one is added."""
    at = source.randrange(len(parts))
    to = source.randrange(len(parts))
    exchanged = list(parts)
    exchanged[at], exchanged[to] = exchanged[to], exchanged[at]
    other = source.choice(others)
    return [
        parts[:at] + parts[at + 1:],
        parts[:at] + [parts[at]] + parts[at:],
        exchanged,
        parts[:at] + [other] + parts[at + 1:],
        parts[:at] + [other] + parts[at:],
    ]


def changed_texts(source, text, alphabet):
    """Return texts in which one or more characters are changed."""
    found = ["".join(parts) for parts in changed_lists(source, list(text), alphabet)]
    found += ["".join(parts) for parts in changed_lists(source, list(found[3]) or ["0"], alphabet)]
    return found


class TestFormatting(CallCase):
    def check_text(self, text):
        self.assertIs(type(text), str)

    def test_fractions(self):
        for top, bottom in mixed_fractions() + edge_thresholds() + drawn_fractions(240, 100):
            found = self.call(format_fraction, (top, bottom))
            self.check_text(found)
            self.assertEqual(found, f"{top}" if bottom == 1 else f"{top}/{bottom}")

    def test_known_fractions(self):
        known = {
            (0, 1): "0", (1, 1): "1", (-1, 1): "-1", (1, 2): "1/2", (-3, 2): "-3/2", (10, 1): "10",
            (100, 7): "100/7", (-1, 100): "-1/100",
        }
        for fraction, text in known.items():
            self.assertEqual(format_fraction(fraction), text)

    def test_the_ends_of_parts(self):
        for digits in (63, 64, 65, 127, 128, 129, 192, 193, 399, 400, 401):
            for value in (10 ** digits, 10 ** digits - 1, 10 ** digits + 1, 7 * 10 ** (digits - 1)):
                self.assertEqual(format_fraction((value, 1)), f"{value}")
                self.assertEqual(format_fraction((-value, 1)), f"-{value}")

    def test_more_digits_than_python_writes_at_once(self):
        self.assertEqual(format_fraction((10 ** 5000, 1)), "1" + "0" * 5000)
        self.assertEqual(format_fraction((1, 10 ** 5000)), "1/1" + "0" * 5000)
        self.assertEqual(format_fraction((1 - 10 ** 5000, 10 ** 4999)), "-" + "9" * 5000 + "/1" + "0" * 4999)

    def test_ratings(self):
        self.assertEqual(format_rating(((0, 1),)), "0")
        self.assertEqual(format_rating(((2, 1), (-1, 3), (0, 1))), "2 -1/3 0")
        for size in range(1, 9):
            rating = tuple(drawn_fractions(241 + size, size))
            found = self.call(format_rating, rating)
            self.check_text(found)
            self.assertEqual(found, " ".join([format_fraction(fraction) for fraction in rating]))

    def test_panels(self):
        self.assertEqual(format_panel(P), "item 4 1\nitem 0 1\nitem 3 2\nrule 0 1\nrule 1 2\n")
        self.assertEqual(format_panel((((-MARK, WEIGHT),), ())), "item -1000000000 1000000\n")
        for panel in many_panels(242, 20):
            found = self.call(format_panel, panel)
            self.check_text(found)
            expected = [f"item {mark} {weight}" for mark, weight in panel[0]]
            expected += [f"rule {low} {high}" for low, high in panel[1]]
            self.assertEqual(found.split("\n"), [*expected, ""])


class ParseCase(CallCase):
    def check_raises(self, function, value, place):
        for time in range(2):
            with self.assertRaises(ParseError) as caught:
                function(value)
            self.assertIs(type(caught.exception), ParseError)
            self.assertEqual(caught.exception.place, place)
            self.assertIs(type(caught.exception.place), type(place))

    def check_not_texts(self, function):
        for value in any_values():
            if not isinstance(value, str):
                with self.subTest(value=value):
                    self.check_raises(function, value, None)
        self.check_raises(function, b"1", None)


class TestParseRating(ParseCase):
    def check_text(self, text):
        """Check a text that may or may not be that of a rating."""
        place = rating_place(text)
        if place is None:
            found = self.call(parse_rating, text)
            self.check_fractions(found, text.count(" ") + 1)
            self.assertEqual(format_rating(found), text)
        else:
            self.check_raises(parse_rating, text, place)
        return place

    def test_formatted_and_parsed_again(self):
        ratings = [tuple(drawn_fractions(243 + size, size)) for size in range(1, 13)]
        ratings += [(fraction,) for fraction in mixed_fractions() + edge_thresholds()]
        ratings += [((0, 1),) * 200, ((1, 2), (-1, 2)) * 40]
        for rating in ratings:
            found = self.call(parse_rating, format_rating(rating))
            self.assertEqual(found, rating)
            self.check_fractions(found, len(rating))

    def test_wrong_words_at_each_place(self):
        right = ["1/2", "3", "-7", "0", "-22/7"]
        for word in WRONG_WORDS:
            for at in range(5):
                with self.subTest(word=word, at=at):
                    self.check_raises(parse_rating, " ".join([*right[:at], word, *right[at + 1:]]), at)
                    self.check_raises(parse_rating, " ".join([*right[:at], word, word, "x"]), at)
            self.check_raises(parse_rating, word, 0)

    def test_spaces(self):
        for text, place in (("", 0), (" ", 0), ("  ", 0), (" 1", 0), ("1 ", 1), ("1  2", 1), ("1 2 ", 2), ("1 2  3", 2)):
            with self.subTest(text=text):
                self.check_raises(parse_rating, text, place)

    def test_changed_texts(self):
        source = random.Random(244)
        words = [*WRONG_WORDS, "1", "0", "-1/3", "12/35"]
        seen = {True: 0, False: 0}
        for rating in [tuple(drawn_fractions(k, k)) for k in range(1, 5)] + [((1, 2), (-3, 1), (0, 1), (10, 21))] * 40:
            text = format_rating(rating)
            found = [" ".join(parts) for parts in changed_lists(source, text.split(" "), words)]
            found += changed_texts(source, text, list("0123456789-/ +\t\n."))
            for other in found:
                with self.subTest(other=other):
                    seen[self.check_text(other) is None] += 1
        self.assertGreater(min(seen.values()), 50)

    def test_small_fractions(self):
        for top in range(-12, 13):
            for bottom in range(-2, 13):
                self.check_text(f"{top}/{bottom}")
                self.check_text(f"5 {top}/{bottom} 7")

    def test_very_many_digits(self):
        self.assertEqual(parse_rating("1" + "0" * 5000), ((10 ** 5000, 1),))
        self.assertEqual(parse_rating("-" + "9" * 5000), ((1 - 10 ** 5000, 1),))
        self.assertEqual(parse_rating("3/1" + "0" * 4999 + " 2"), ((3, 10 ** 4999), (2, 1)))
        self.check_raises(parse_rating, "2/1" + "0" * 4999, 0)
        self.check_raises(parse_rating, "1 " + "0" * 5000, 1)
        for digits in (63, 64, 65, 128, 129, 400):
            for value in (10 ** digits, 10 ** digits - 1, -(10 ** (digits - 1) + 7)):
                self.assertEqual(parse_rating(f"{value}"), ((value, 1),))
                self.assertEqual(parse_rating(f"1/{abs(value)}"), ((1, abs(value)),))

    def test_any_number_of_fractions(self):
        self.assertEqual(parse_rating(" ".join(["5/3"] * 2000)), ((5, 3),) * 2000)
        self.check_raises(parse_rating, " ".join(["5/3"] * 2000 + ["6/3"]), 2000)

    def test_values_that_are_not_texts(self):
        self.check_not_texts(parse_rating)

    def test_texts_of_all_kinds(self):
        for value in any_values():
            if isinstance(value, str):
                self.check_text(value)


class TestParsePanel(ParseCase):
    def check_text(self, text):
        """Check a text that may or may not be that of a panel."""
        place = panel_place(text)
        if place is None:
            found = self.call(parse_panel, text)
            self.assertEqual([type(part) for part in found], [tuple, tuple])
            self.assertEqual(format_panel(found), text)
        else:
            self.check_raises(parse_panel, text, place)
        return place

    def test_formatted_and_parsed_again(self):
        for panel in many_panels(245, 60):
            self.assertEqual(self.call(parse_panel, format_panel(panel)), panel)

    def test_wrong_lines_at_each_place(self):
        items = [f"item {mark} {weight}" for mark, weight in SPREAD]
        rules = [f"rule {low} {high}" for low, high in GRID]
        lines = items[:3] + ["rule 0 1", "rule 2 1"]
        for line in WRONG_LINES:
            for at in range(len(lines) + 1):
                text = "".join([other + "\n" for other in lines[:at] + [line] + lines[at:]])
                with self.subTest(line=line[:40], at=at):
                    self.check_raises(parse_panel, text, at)
                    self.check_raises(parse_panel, text + "x", at)
            full = "\n".join([*items, *rules[:15], line]) + "\n"
            self.check_raises(parse_panel, full, 23)

    def test_the_last_line_break(self):
        for panel in many_panels(246, 10):
            text = format_panel(panel)
            many = len(panel[0]) + len(panel[1])
            with self.subTest(text=text):
                self.check_raises(parse_panel, text[:-1], many)
                self.check_raises(parse_panel, text + "\n", many)
                self.check_raises(parse_panel, text + "\n\n", many)
                self.check_raises(parse_panel, text + " ", many)
                self.check_raises(parse_panel, "\n" + text, 0)
                self.check_raises(parse_panel, text.replace("\n", "\r\n"), 0)
                self.check_raises(parse_panel, text.replace("\n", "\n\n"), 1)
                self.check_raises(parse_panel, text[:-2], many if text[-3] != " " else many - 1)

    def test_no_item(self):
        for text in ("", "\n", " ", "item", "rule 0 1\n", "rule 0 1", "\nitem 4 1\n"):
            with self.subTest(text=text):
                self.check_raises(parse_panel, text, 0)

    def test_rules_before_and_between_items(self):
        self.check_raises(parse_panel, "rule 0 1\nitem 1 1\nitem 2 1\n", 0)
        self.check_raises(parse_panel, "item 1 1\nitem 2 1\nrule 0 1\nitem 3 1\n", 3)
        self.check_raises(parse_panel, "item 1 1\nrule 0 1\nitem 2 1\n", 1)

    def test_rules_between_equal_and_missing_items(self):
        for size in range(1, 9):
            start = "item 1 1\n" * size
            for low in range(10):
                for high in range(10):
                    with self.subTest(size=size, low=low, high=high):
                        text = f"{start}rule {low} {high}\n"
                        if max(low, high) < size and low != high:
                            self.assertEqual(parse_panel(text), (((1, 1),) * size, ((low, high),)))
                        else:
                            self.check_raises(parse_panel, text, size)

    def test_sizes(self):
        for items in range(1, 12):
            for rules in range(20):
                text = "item 1 1\n" * items + "rule 0 1\n" * rules
                with self.subTest(items=items, rules=rules):
                    self.check_text(text)
        self.check_raises(parse_panel, "item 1 1\n" * 9, 8)
        self.check_raises(parse_panel, "item 1 1\n" * 9 + "x", 8)
        self.check_raises(parse_panel, "item 1 1\n" * 8 + "item 1 1", 8)
        self.check_raises(parse_panel, "item 1 1\n" * 2 + "rule 1 0\n" * 17, 18)
        self.check_raises(parse_panel, "item 1 1\n" * 2 + "rule 1 0\n" * 16 + "rule 1 0", 18)

    def test_limits_of_marks_and_weights(self):
        for mark in (-MARK - 1, -MARK, 1 - MARK, -1, 0, MARK - 1, MARK, MARK + 1):
            for weight in (-1, 0, 1, WEIGHT - 1, WEIGHT, WEIGHT + 1):
                with self.subTest(mark=mark, weight=weight):
                    self.check_text(f"item {mark} {weight}\n")
                    self.check_text(f"item 7 7\nitem {mark} {weight}\nrule 0 1\n")
                    self.check_text(f"item {mark} {weight}")

    def test_changed_texts(self):
        source = random.Random(247)
        lines = [*WRONG_LINES, "item 1 1", "item 5 5", "rule 0 1", "rule 1 0"]
        words = ["item", "rule", "0", "1", "8", "", "-1", "01", "-0", "+1", "1/2", "x", "\t"]
        seen = {True: 0, False: 0}
        panels = drawn_panels(248, 100, items=4, rules=4) + drawn_panels(249, 20) + [P, (SPREAD, ROUND), (SPREAD, CHAIN)]
        for panel in panels:
            text = format_panel(panel)
            found = ["\n".join(parts) for parts in changed_lists(source, text.split("\n"), lines)]
            found += [" ".join(parts) for parts in changed_lists(source, text.split(" "), words)]
            found += changed_texts(source, text, list("0123456789- \n\tit/+"))
            for other in found:
                with self.subTest(other=other):
                    seen[self.check_text(other) is None] += 1
        self.assertGreater(min(seen.values()), 100)

    def test_values_that_are_not_texts(self):
        self.check_not_texts(parse_panel)

    def test_texts_of_all_kinds(self):
        for value in any_values():
            if isinstance(value, str):
                self.check_raises(parse_panel, value, 0)

    def test_more_digits_than_python_reads_at_once(self):
        self.check_raises(parse_panel, "item " + "9" * 5000 + " 1\n", 0)
        self.check_raises(parse_panel, "item 1 1\nrule 0 " + "1" * 5000 + "\n", 1)


class TestInterface(CallCase):
    def test_each_function_is_defined_in_this_module(self):
        names = ("format_fraction", "format_rating", "format_panel", "parse_rating", "parse_panel")
        self.check_module(texts, names)

    def parse(self, function, text):
        try:
            function(text)
        except ParseError:
            pass

    def test_no_call_takes_long(self):
        for panel in edge_panels().values():
            self.check_time(format_panel, panel)
            self.check_time(parse_panel, format_panel(panel))
        rating = tuple(edge_thresholds()[:8])
        self.check_time(format_rating, rating)
        self.check_time(parse_rating, format_rating(rating))
        for text in ("9" * 4000, "9" * 2000 + "/" + "7" * 2000, " " * 4000, "1 " * 2000, "\n" * 4000, "item 1 1\n" * 450):
            with self.subTest(text=text[:20]):
                self.check_time(self.parse, parse_rating, text)
                self.check_time(self.parse, parse_panel, text)


if __name__ == "__main__":
    unittest.main()
