"""Consoles: commands on a book, as texts."""

from poolmarks.errors import Busy, Full, InvalidMark, InvalidWeight, LastItem, NoSuchItem, NoSuchRule
from poolmarks.errors import NothingToUndo, TooManyActions
from poolmarks.growth import mark_to_reach
from poolmarks.panels import is_index
from poolmarks.texts import format_fraction, format_rating, parse_fraction, parse_integer
from poolmarks.thresholds import top_sets

# What follows the name of each command: N is an integer, F is a fraction.
SHAPES = {
    "mark": "NN",
    "weight": "NN",
    "item": "NN",
    "drop": "N",
    "rule": "NN",
    "unrule": "N",
    "undo": "",
    "rating": "",
    "cost": "",
    "idle": "",
    "above": "F",
    "from": "F",
    "reach": "NNF",
}

# The least integer that has more digits than a command may contain.
TOO_LONG = 10 ** 13

TRANSCRIPT_PAIRS = 20


def read_integer(word):
    """Return the integer that a word of a command is, or None."""
    value = parse_integer(word)
    return None if value is None or abs(value) >= TOO_LONG else value


def read_fraction(word):
    """Return the fraction that a word of a command is, or None."""
    value = parse_fraction(word)
    return None if value is None or abs(value[0]) >= TOO_LONG or value[1] >= TOO_LONG else value


def read_command(line):
    """Return the name and the list of the arguments of the command that any value is, or None."""
    if not isinstance(line, str):
        return None
    name, *words = line.split(" ")
    if name not in SHAPES or len(words) != len(SHAPES[name]):
        return None
    arguments = []
    for word, kind in zip(words, SHAPES[name]):
        arguments.append(read_integer(word) if kind == "N" else read_fraction(word))
    return None if None in arguments else (name, arguments)


def format_indexes(indexes):
    """Return the indexes separated by single spaces, - if there are none."""
    return " ".join([str(index) for index in indexes]) if len(indexes) > 0 else "-"


def reach_text(panel, item, watched, value):
    """Return the result of the command reach."""
    for index in (item, watched):
        if not is_index(index, len(panel[0])):
            raise NoSuchItem(index)
    found = mark_to_reach(panel, item, watched, value)
    return format_fraction(found[1]) if found[0] == "from" else found[0]


def change_book(book, name, arguments):
    """Perform the command if it changes the book, and return whether it does."""
    if name == "mark":
        book.set_mark(*arguments)
    elif name == "weight":
        book.set_weight(*arguments)
    elif name == "item":
        book.add_item(*arguments)
    elif name == "drop":
        book.drop_item(*arguments)
    elif name == "rule":
        book.add_rule(*arguments)
    elif name == "unrule":
        book.drop_rule(*arguments)
    elif name == "undo":
        book.undo()
    else:
        return False
    return True


def ask_book(book, name, arguments):
    """Return the result of a query."""
    panel = book.panel()
    if name == "rating":
        return format_rating(book.rating())
    if name == "cost":
        return format_fraction(book.cost())
    if name == "idle":
        return format_indexes(book.idle())
    if name == "reach":
        return reach_text(panel, *arguments)
    above, not_below = top_sets(panel, *arguments)
    return format_indexes(above if name == "above" else not_below)


def result_of(book, name, arguments):
    """Return the result of a command."""
    try:
        return "done" if change_book(book, name, arguments) else ask_book(book, name, arguments)
    except Busy:
        return "error Busy"
    except TooManyActions:
        return "error TooManyActions"
    except NoSuchItem:
        return "error NoSuchItem"
    except NoSuchRule:
        return "error NoSuchRule"
    except InvalidMark:
        return "error InvalidMark"
    except InvalidWeight:
        return "error InvalidWeight"
    except Full:
        return "error Full"
    except LastItem:
        return "error LastItem"
    except NothingToUndo:
        return "error NothingToUndo"


class Console:
    """Executes commands on one book, and remembers the last ones."""

    def __init__(self, book):
        self.book = book
        self.pairs = []

    def execute(self, line):
        """Return the result of any value as a command."""
        command = read_command(line)
        result = "unknown"
        if command is not None:
            name, arguments = command
            result = result_of(self.book, name, arguments)
        shown = line if isinstance(line, str) else None
        self.pairs = self.pairs[1 - TRANSCRIPT_PAIRS:] + [(shown, result)]
        return result

    def transcript(self):
        """Return the last pairs (line, result)."""
        return tuple(self.pairs)
