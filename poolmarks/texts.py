"""Texts of fractions, ratings and panels, written and read."""

from poolmarks.bounds import ITEMS, RULES
from poolmarks.errors import ParseError
from poolmarks.fractions import is_fraction
from poolmarks.panels import item_fault, rule_fault

# Python itself refuses to write or to read some thousands of digits at once,
# so longer integers are taken in parts.
PART_DIGITS = 64
PART = 10 ** 64


def format_integer(value):
    """Return the decimal text of an integer of any size."""
    left = abs(value)
    parts = []
    while left >= PART:
        left, part = divmod(left, PART)
        parts.append(str(part).zfill(PART_DIGITS))
    parts.append(str(left))
    sign = "-" if value < 0 else ""
    return sign + "".join(reversed(parts))


def format_fraction(fraction):
    """Return the text of a fraction."""
    numerator, denominator = fraction
    if denominator == 1:
        return format_integer(numerator)
    return format_integer(numerator) + "/" + format_integer(denominator)


def format_rating(rating):
    """Return the texts of the fractions, separated by single spaces."""
    return " ".join([format_fraction(fraction) for fraction in rating])


def format_panel(panel):
    """Return a line for each item, then a line for each rule."""
    items, rules = panel
    lines = [f"item {mark} {weight}\n" for mark, weight in items]
    lines += [f"rule {low} {high}\n" for low, high in rules]
    return "".join(lines)


def is_decimal(text):
    """Return whether a text consists of the digits 0 to 9, without leading zeros."""
    # Alone, isdigit accepts the digits of other scripts.
    if not text.isascii() or not text.isdigit():
        return False
    return text == "0" or not text.startswith("0")


def read_digits(digits):
    """Return the integer that is written in one or more digits."""
    padded = "0" * (-len(digits) % PART_DIGITS) + digits
    value = 0
    for at in range(0, len(padded), PART_DIGITS):
        value = value * PART + int(padded[at:at + PART_DIGITS])
    return value


def parse_integer(word):
    """Return the integer whose text the word is, or None."""
    if word == "-0":
        return None
    digits = word.removeprefix("-")
    if not is_decimal(digits):
        return None
    return read_digits(digits) if digits == word else -read_digits(digits)


def parse_fraction(word):
    """Return the fraction whose text the word is, or None."""
    top, slash, bottom = word.partition("/")
    numerator = parse_integer(top)
    denominator = parse_integer(bottom) if slash == "/" else 1
    # The denominator 1 is never written.
    if slash == "/" and denominator == 1:
        return None
    fraction = (numerator, denominator)
    return fraction if is_fraction(fraction) else None


def parse_rating(value):
    """Return the fractions whose text any value is."""
    if not isinstance(value, str):
        raise ParseError(None)
    rating = [parse_fraction(word) for word in value.split(" ")]
    if None in rating:
        raise ParseError(rating.index(None))
    return tuple(rating)


def parse_line(line):
    """Return the first word of a line and a pair of the two integers behind it.

    The word is empty if the line has not three words. An integer is None if
    its word is not the text of one.
    """
    words = line.split(" ")
    if len(words) != 3:
        return ("", ())
    return (words[0], (parse_integer(words[1]), parse_integer(words[2])))


def parse_panel(value):
    """Return the panel whose text any value is."""
    if not isinstance(value, str):
        raise ParseError(None)
    *lines, rest = value.split("\n")
    if rest != "":
        lines.append(rest)
    items = []
    rules = []
    for at, line in enumerate(lines):
        word, pair = parse_line(line)
        if word == "item" and len(items) < ITEMS and len(rules) == 0 and item_fault(at, pair) is None:
            items.append(pair)
        elif word == "rule" and len(rules) < RULES and rule_fault(at, pair, len(items)) is None:
            rules.append(pair)
        else:
            raise ParseError(at)
    if rest != "" or len(items) == 0:
        raise ParseError(len(lines))
    return (tuple(items), tuple(rules))
