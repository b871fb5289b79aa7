"""The errors of the package.

An error with fields only stores them. It builds no message of its own, so
that Python shows it as it was constructed, and no field is ever too long or
too deep to be written into a text.
"""


class MarksError(ValueError):
    """The base of the errors that are not about an index."""


class ZeroDenominator(MarksError):
    """A fraction would have the denominator 0."""


class InvalidPanel(MarksError):
    """A value is not a panel; path and reason name its first fault."""

    def __init__(self, path, reason):
        self.path = path
        self.reason = reason


class Full(MarksError):
    """A panel would have too many items or rules."""


class LastItem(MarksError):
    """A panel would lose its only item."""


class NotFalling(MarksError):
    """The averages of two neighbouring blocks do not fall at this index."""

    def __init__(self, index):
        self.index = index


class OutOfRange(MarksError):
    """A mark or a weight would exceed its bounds."""


class TooManyActions(MarksError):
    """A book keeps as many actions as it may."""


class Busy(MarksError):
    """A book is in the middle of a batch."""


class NothingToUndo(MarksError):
    """A book keeps no action."""


class InvalidBatch(MarksError):
    """A value is not a batch of actions."""


class BatchFailed(MarksError):
    """The action at this index of a batch raised an error."""

    def __init__(self, index):
        self.index = index


class InvalidMark(MarksError):
    """A value is not a mark."""

    def __init__(self, mark):
        self.mark = mark


class InvalidWeight(MarksError):
    """A value is not a weight."""

    def __init__(self, weight):
        self.weight = weight


class ParseError(MarksError):
    """A text is wrong at this word or line; the place is None if the value is not a text."""

    def __init__(self, place):
        self.place = place


class NoSuchItem(LookupError):
    """A value is not the index of an item that can stand here."""

    def __init__(self, item):
        self.item = item


class NoSuchRule(LookupError):
    """A value is not the index of a rule."""

    def __init__(self, rule):
        self.rule = rule


class NoSuchStep(LookupError):
    """A value is not a number of kept actions."""

    def __init__(self, step):
        self.step = step
