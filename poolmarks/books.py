"""Books: a panel under a sequence of actions."""

from poolmarks.actions import apply_action, read_batch
from poolmarks.bounds import ACTIONS
from poolmarks.errors import BatchFailed, Busy, InvalidPanel, MarksError, NoSuchItem, NoSuchRule, NoSuchStep
from poolmarks.errors import NothingToUndo, TooManyActions
from poolmarks.panels import find_fault, is_index
from poolmarks.ratings import best_rating, cost_of, level_groups
from poolmarks.rules import idle_rules

LOG_ROWS = 10


class Book:
    """A panel and the actions that led to it; nothing is remembered of the results of queries."""

    def __init__(self, panel):
        fault = find_fault(panel)
        if fault is not None:
            path, reason = fault
            raise InvalidPanel(path, reason)
        # The panels before the first kept action and after each of them.
        self.states = [panel]
        self.kept = []
        self.rows = []
        self.busy = False

    def __len__(self):
        return len(self.kept)

    def __eq__(self, other):
        return isinstance(other, Book) and self.states[-1] == other.states[-1]

    def __str__(self):
        return f"{len(self.states[-1][0])} items, {len(self.states[-1][1])} rules, {len(self.kept)} actions"

    def check_free(self):
        """Raise Busy in the middle of a batch."""
        if self.busy:
            raise Busy()

    def perform(self, action):
        """Perform and keep an action with as many arguments as it takes, even in the middle of a batch."""
        if len(self.kept) >= ACTIONS:
            raise TooManyActions()
        self.states.append(apply_action(self.states[-1], action))
        self.kept.append(action)

    def act(self, action):
        """Perform and keep an action unless the book is in the middle of a batch."""
        self.check_free()
        self.perform(action)

    def set_mark(self, item, mark):
        """Give the item another mark."""
        self.act(("set_mark", item, mark))

    def set_weight(self, item, weight):
        """Give the item another weight."""
        self.act(("set_weight", item, weight))

    def add_item(self, mark, weight):
        """Add an item at the end."""
        self.act(("add_item", mark, weight))

    def drop_item(self, item):
        """Remove the item and its rules."""
        self.act(("drop_item", item))

    def add_rule(self, low, high):
        """Add a rule at the end."""
        self.act(("add_rule", low, high))

    def drop_rule(self, rule):
        """Remove the rule."""
        self.act(("drop_rule", rule))

    def undo(self):
        """Revert the last kept action."""
        self.check_free()
        if len(self.kept) == 0:
            raise NothingToUndo()
        self.states.pop()
        self.kept.pop()

    def perform_step(self, index, action):
        """Perform the action that has this index in a batch."""
        try:
            self.perform(action)
        except (MarksError, NoSuchItem, NoSuchRule):
            raise BatchFailed(index)

    def run(self, batch, *, on_step=None):
        """Perform all actions of the batch or none, and call on_step with the book after each of them."""
        self.check_free()
        steps = read_batch(batch)
        self.rows = self.rows[1 - LOG_ROWS:] + [("begin", len(steps))]
        # What the book goes back to, unless all actions are performed.
        states = list(self.states)
        kept = list(self.kept)
        many = 0
        self.busy = True
        try:
            for index, action in enumerate(steps):
                self.perform_step(index, action)
                if on_step is not None:
                    on_step(self)
            states = self.states
            kept = self.kept
            many = len(steps)
        finally:
            self.states = states
            self.kept = kept
            self.busy = False
            self.rows.append(("end", many))

    def log(self):
        """Return the last rows of the beginnings and ends of batches."""
        return tuple(self.rows[-LOG_ROWS:])

    def panel(self):
        """Return the current panel."""
        return self.states[-1]

    def actions(self):
        """Return the actions that are kept."""
        return tuple(self.kept)

    def rating(self):
        """Return the best rating of the current panel."""
        return best_rating(self.panel())

    def levels(self):
        """Return the levels of the current panel."""
        return level_groups(self.panel())

    def cost(self):
        """Return the cost of the best rating of the current panel."""
        return cost_of(self.panel(), self.rating())

    def idle(self):
        """Return the idle rules of the current panel."""
        return idle_rules(self.panel())

    def state_at(self, step):
        """Return the panel after this many of the kept actions."""
        if not is_index(step, len(self.states)):
            raise NoSuchStep(step)
        return self.states[step]

    def copy(self):
        """Return an equal book with the same kept actions that goes its own way."""
        twin = Book(self.states[0])
        twin.states = list(self.states)
        twin.kept = list(self.kept)
        return twin
