"""Live stores."""

from pagelives.errors import Broken, InvalidEvent, NothingToUndo, NotUsable
from pagelives.kinds import is_page, is_rule, is_switch
from pagelives.livemoments import behind_event, deeds_at_moment, first_moment, reason_against, through_events
from pagelives.orders import ascending
from pagelives.stops import left_behind
from pagelives.storepictures import picture_lines
from pagelives.storesteps import row_of
from pagelives.trials import Trial
from pagelives.usable import need


class Live:
    """A store that goes from event to event, and back."""

    MOST = 40

    def __init__(self, rule=(), *, careful="off"):
        need(is_rule(rule), "rule")
        need(is_switch(careful), "careful")
        self._rule = rule
        # All that events change: a trial sets it back from outside.
        self.moments = (first_moment(careful),)
        self._started = 0
        self._finished = 0

    @property
    def rule_now(self):
        """The rule."""
        return self._rule

    @property
    def history_now(self):
        """The deeds that were done."""
        return self.moments[-1].history

    @property
    def store_now(self):
        """The store behind these deeds, as data."""
        return self.moments[-1].store

    @property
    def log_now(self):
        """The log of the store."""
        return self.moments[-1].store[0]

    @property
    def careful_now(self):
        """Whether deeds that bring a harm are refused: "on" or "off"."""
        return self.moments[-1].careful

    @careful_now.setter
    def careful_now(self, value):
        self._apply(("careful", value))

    @property
    def deeds_now(self):
        """The set of the deeds that are possible as events, of the pages that were named and without a page."""
        return deeds_at_moment(self._rule, self.moments[-1])

    @property
    def harms_now(self):
        """The triples (k, harm, page) of all harms so far, deed k having brought them."""
        return self.moments[-1].harms

    @property
    def left_now(self):
        """The pairs (page, set) that a stop now leaves."""
        return left_behind(self._rule, self.moments[-1].store)

    def happen(self, event):
        """Apply an event; returns how many deeds were done then."""
        return self._apply(event)

    def do_deed(self, deed):
        """Do a deed; returns how many were done then."""
        return self._apply(("deed", deed))

    def set_careful(self, word):
        """Refuse deeds that bring a harm from now on, or let them; returns how many deeds were done."""
        return self._apply(("careful", word))

    def mark(self, name):
        """Give this moment a name; returns how many deeds were done."""
        return self._apply(("mark", name))

    def __iadd__(self, other):
        self._apply(other)
        return self

    def undo(self):
        """Take back the last event, and return it."""
        self._started = self._started + 1
        try:
            if len(self.moments) == 1:
                raise NothingToUndo(0)
            event = self.moments[-1].event
            self.moments = self.moments[:-1]
            return event
        finally:
            self._finished = self._started

    def do_all(self, *events, keep=False):
        """Apply events in order, all or none; if keep is True, those before the first that is not possible."""
        self._started = self._started + 1
        before = self.moments
        done = 0
        try:
            for event in events:
                self.moments = behind_event(self._rule, self.moments, self.MOST, event)
                done = done + 1
            return done
        except InvalidEvent as error:
            if keep is not True:
                self.moments = before
            raise Broken(done) from error
        finally:
            self._finished = self._started

    def barred(self, event):
        """The reason why an event is not possible, None if it is."""
        return reason_against(self._rule, self.moments, self.MOST, event)

    def tried(self, *events):
        """The store that these events would lead to; nothing changes."""
        return through_events(self._rule, self.moments, self.MOST, events)[-1].store

    def trial(self):
        """What is done within with live.trial() is undone at its end."""
        return Trial(self)

    def counts(self):
        """How many operations were started, and finished."""
        return self._started, self._finished

    def set_on(self, page):
        """The set of the contents that may be on the disk there, of any page."""
        need(is_page(page), "page")
        return row_of(self.store_now[4], page)[3]

    def made_since(self, name):
        """The set of the numbers that were made behind the moment of this name."""
        used = len(self.store_now[3])
        for mark, many in self.moments[-1].marks:
            if mark == name:
                return tuple(range(many, used))
        raise NotUsable("name", -1)

    def tally(self):
        """The pairs (word, how many deeds have it)."""
        words = [deed[0] for deed in self.history_now]
        return tuple([(word, words.count(word)) for word in ascending(words)])

    def table(self):
        """The list of the lines that show the pages."""
        return picture_lines(self.store_now)[1:]

    def story(self):
        """The beginning, and the events that were not undone."""
        events = [moment.event for moment in self.moments[1:]]
        return (("live", self._rule, self.moments[0].careful), *events)

    def __getitem__(self, at):
        need(at in self, "page")
        return row_of(self.store_now[4], at)

    # Without this method Python would ask for the items 0, 1 and so on.
    def __iter__(self):
        raise TypeError("a live store is not iterated over")

    def __contains__(self, x):
        return is_page(x) and x in [row[0] for row in self.store_now[4]]

    def __len__(self):
        return len(self.store_now[4])

    def __eq__(self, other):
        return isinstance(other, Live) and self.story() == other.story()

    def _apply(self, event):
        """Apply an event as one operation; returns how many deeds were done then."""
        self._started = self._started + 1
        try:
            self.moments = behind_event(self._rule, self.moments, self.MOST, event)
            return len(self.history_now)
        finally:
            self._finished = self._started
