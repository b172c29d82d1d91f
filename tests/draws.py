"""Histories that tests go through: all short ones, and long ones that look drawn."""

from pagelives.deedbars import deeds_at, deeds_now
from pagelives.historychecker import is_history
from pagelives.storesteps import FIRST, store_behind

SELDOM = ("stop", "strike", "point")


class Draws:
    """Numbers that look drawn, and are the same in each run."""

    def __init__(self, start):
        self.now = start

    def below(self, many):
        """A number that is less than many."""
        self.now = (self.now * 6364136223846793005 + 1442695040888963407) % 2 ** 64
        return (self.now >> 33) % many

    def one_of(self, things):
        """One of these things."""
        return things[self.below(len(things))]

    def some_of(self, things, part=2):
        """About one in part of these things, in their order."""
        return tuple([thing for thing in things if self.below(part) == 0])

    def history(self, rule, many, pages, starts=((),)):
        """A history by the rule, with so many deeds behind one of starts, or behind none where this is no history."""
        history = self.one_of(starts)
        if not is_history(rule, history):
            history = ()
        for _ in range(many):
            deeds = deeds_now(rule, history, *pages)
            deed = self.one_of(deeds)
            if deed[0] in SELDOM:
                deed = self.one_of(deeds)
            history = history + (deed,)
        return history


    def stretch(self, rule, many, pages, starts=((),)):
        """Likewise a history without stop, put and end, perhaps shorter where no other deed is possible."""
        history = self.one_of(starts)
        if not is_history(rule, history):
            history = ()
        while len(history) < many:
            deeds = [deed for deed in deeds_now(rule, history, *pages) if deed != ("stop",)]
            if not deeds:
                break
            deed = self.one_of(deeds)
            if deed[0] == "point":
                deed = self.one_of(deeds)
            history = history + (deed,)
        return history


def short_stretches(rule, many, pages):
    """All stretches by the rule with at most so many deeds, of these pages."""
    found = last = [()]
    for _ in range(many):
        last = [history + (deed,) for history in last for deed in deeds_now(rule, history, *pages)
                if deed != ("stop",)]
        found = found + last
    return found


def short_histories(rule, many, pages):
    """All histories by the rule with at most so many deeds, of these pages."""
    found = last = [()]
    for _ in range(many):
        last = [history + (deed,) for history in last for deed in deeds_now(rule, history, *pages)]
        found = found + last
    return found


def deeds_tried(rule, most, pages):
    """The triples (how many came before, store, deed) of all deeds of histories by the rule, each store but once."""
    seen = {FIRST}
    last = [FIRST]
    for many in range(most):
        new = []
        for store in last:
            for deed in deeds_at(rule, store, pages):
                yield many, store, deed
                behind = store_behind(rule, store, deed)
                if behind not in seen:
                    seen.add(behind)
                    new.append(behind)
        last = new
