"""A desk at which a live store is asked and led by rows of text."""

from pagelives.deskanswers import answer_to
from pagelives.livereadings import beginning_read, event_read
from pagelives.lives import Live
from pagelives.livetexts import event_line
from pagelives.usable import need


class Desk:
    """A live store, at first one by the rule, that is led and asked row by row."""

    def __init__(self, rule=()):
        self._live = Live(rule)
        self._started = 0
        self._finished = 0

    def say(self, row):
        """The answer to a row."""
        self._started = self._started + 1
        try:
            need(isinstance(row, str), "row")
            return self._answer(row)
        finally:
            self._finished = self._started

    def counts(self):
        """How many calls of say were started, and finished."""
        return self._started, self._finished

    def _answer(self, row):
        """Do what the row says, or tell what it asks."""
        if row == "undo":
            return event_line(self._live.undo())
        event, _ = event_read(row)
        if event is not None:
            return str(self._live.happen(event))
        beginning, _ = beginning_read(row)
        if beginning is not None:
            _, rule, careful = beginning
            self._live = Live(rule, careful=careful)
            return "ok"
        return answer_to(self._live, row)
