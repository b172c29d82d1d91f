"""[55] to [61]: live stores led at random through events, batches, undos and trials, beside a list of their events."""

import unittest

from pagelives.deedbars import barred_by
from pagelives.errors import Broken, InvalidEvent, NothingToUndo
from pagelives.liveevents import is_event
from pagelives.lives import Live
from pagelives.stops import harms_now
from pagelives.stores import store_after
from tests.draws import Draws
from tests.lively import FORTY, NO_EVENTS, as_events, drawn_event, told
from tests.samples import ALL, OLD, Case


class Listed:
    """What is to be told of a live store, found anew from the list of its events."""

    def __init__(self, rule, careful):
        self.rule = rule
        self.first = careful
        self.events = []
        self.counted = 0

    def history(self, events):
        return tuple([part for word, part in events if word == "deed"])

    def careful(self, events):
        return ([self.first] + [part for word, part in events if word == "careful"])[-1]

    def reason(self, events, event):
        """Why an event is not possible behind these, by the words of [56]."""
        if not is_event(event):
            return "shape"
        if len(events) == 40:
            return "full"
        if event[0] == "deed":
            words = barred_by(self.rule, self.history(events), event[1])
            harms = () if words else harms_now(self.rule, self.history(events) + (event[1],))
            return words[0] if words else "harm" if harms and self.careful(events) == "on" else None
        if event[0] == "careful":
            return "same" if event[1] == self.careful(events) else None
        return "twice" if event in events else None

    def fresh(self):
        """A fresh live store to which all these events happen."""
        live = Live(self.rule, careful=self.first)
        for event in self.events:
            live.happen(event)
        return live


class Runs(Case):
    def check(self, live, listed):
        """The live store tells what a fresh one does, and what was made since each of its marks."""
        self.same([told(live), live.counts()], [told(listed.fresh()), (listed.counted,) * 2])
        self.same(live.story(), (("live", listed.rule, listed.first), *listed.events))
        used = len(live.store_now[3])
        for k, (word, name) in enumerate(listed.events):
            if word == "mark":
                before = len(store_after(listed.rule, listed.history(listed.events[:k]))[3])
                self.same(live.made_since(name), tuple(range(before, used)))

    def event(self, draws, live):
        return draws.one_of(NO_EVENTS) if draws.below(12) == 0 else drawn_event(draws, live)

    def one(self, draws, live, listed):
        event = self.event(draws, live)
        reason = listed.reason(listed.events, event)
        self.same(live.barred(event), reason)
        listed.counted += 1
        if reason is None:
            listed.events.append(event)
            self.same(live.happen(event), len(listed.history(listed.events)))
        else:
            self.refused(InvalidEvent(event, reason), live.happen, event)

    def batch(self, draws, live, listed):
        """Several events, first tried, then applied at once."""
        events = [self.event(draws, live) for _ in range(draws.below(4))]
        reached = list(listed.events)
        failed = None
        for done, event in enumerate(events):
            failed = listed.reason(reached, event)
            if failed is not None:
                break
            reached.append(event)
        keep = draws.one_of((True, False, 1, None))
        listed.counted += 1
        if failed is None:
            self.same(live.tried(*events), store_after(listed.rule, listed.history(reached)))
            self.same(live.do_all(*events, keep=keep), len(events))
            listed.events = reached
            return
        self.refused(InvalidEvent(event, failed), live.tried, *events)
        with self.assertRaises(Broken) as caught:
            live.do_all(*events, keep=keep)
        self.same([caught.exception.done, vars(caught.exception.__cause__)],
                  [done, {"event": event, "reason": failed}])
        if keep is True:
            listed.events = reached

    def back(self, live, listed):
        listed.counted += 1
        if listed.events:
            self.same(live.undo(), listed.events.pop())
        else:
            self.refused(NothingToUndo(0), live.undo)

    def trial(self, draws, live, listed, deep):
        """Some steps that are undone, at an error perhaps."""
        events = list(listed.events)
        try:
            with live.trial() as same:
                self.assertIs(same, live)
                for _ in range(draws.below(5)):
                    self.step(draws, live, listed, deep + 1)
                if draws.below(3) == 0:
                    raise KeyError
        except KeyError:
            pass
        listed.events = events

    def step(self, draws, live, listed, deep=0):
        kind = draws.below(10)
        if kind < 5 or (kind == 9 and deep == 2):
            self.one(draws, live, listed)
        elif kind < 7:
            self.back(live, listed)
        elif kind < 9:
            self.batch(draws, live, listed)
        else:
            self.trial(draws, live, listed, deep)
        self.check(live, listed)

    def test_drawn_runs(self):
        draws = Draws(58)
        for n in range(40):
            listed = Listed(draws.some_of(ALL, 6), draws.one_of(("on", "off")))
            live = Live(listed.rule, careful=listed.first)
            # Some begin at nothing, some amid going, some with little room.
            for event in ((), as_events(OLD), FORTY[:37], as_events(OLD) + FORTY[:31])[n % 4]:
                if live.barred(event) is None:
                    live.happen(event)
                    listed.events.append(event)
                    listed.counted += 1
            for _ in range(25):
                self.step(draws, live, listed)


if __name__ == "__main__":
    unittest.main()
