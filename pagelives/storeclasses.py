"""Histories by a rule as values."""

from pagelives.deedbars import after_deed, deeds_at
from pagelives.histories import usable_store
from pagelives.kinds import is_page
from pagelives.stops import last_harms
from pagelives.storeharms import harms_brought
from pagelives.storepictures import picture_lines
from pagelives.storesteps import FIRST, row_of
from pagelives.usable import need, need_all


class Store:
    """A history by a rule; it never changes."""

    def __init__(self, rule=(), history=()):
        self._store = usable_store(rule, history)
        self._rule = rule
        self._history = history
        self._brought = harms_brought(rule, FIRST, history)

    @property
    def rule_now(self):
        """The rule."""
        return self._rule

    @property
    def history_now(self):
        """The history."""
        return self._history

    @property
    def log_now(self):
        """The log behind the history."""
        return self._store[0]

    @property
    def store_now(self):
        """The store behind the history, as data."""
        return self._store

    @property
    def deeds_now(self):
        """The set of the deeds that no word bars, with pages of the history or without a page."""
        return deeds_at(self._rule, self._store, ())

    @property
    def harms_now(self):
        """The set of the pairs (harm, page) of the last deed."""
        return last_harms(self._brought)

    def __add__(self, other):
        return Store(self._rule, after_deed(self._rule, self._history, other))

    def __contains__(self, x):
        return is_page(x) and x in [row[0] for row in self._store[4]]

    def __getitem__(self, at):
        need(at in self, "page")
        return row_of(self._store[4], at)

    # Without this method Python would ask for the items 0, 1 and so on.
    def __iter__(self):
        raise TypeError("a store is not iterated over")

    def __len__(self):
        return len(self._history)

    def __bool__(self):
        return not any(self._brought)

    def __str__(self):
        return "\n".join(picture_lines(self._store))

    def __eq__(self, other):
        return isinstance(other, Store) and self._rule == other._rule and self._history == other._history

    def __le__(self, other):
        if not isinstance(other, Store) or self._rule != other._rule:
            return False
        return self._history == other._history[:len(self._history)]


class Careful(Store):
    """A history by a rule of which no deed brings a harm."""

    def __init__(self, rule=(), history=()):
        super().__init__(rule, history)
        need_all([not harms for harms in self._brought], "harm")

    def __add__(self, other):
        return Careful(self._rule, after_deed(self._rule, self._history, other))
