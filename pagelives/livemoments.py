"""The moments of a live store, and how events lead from one to the next.

A live store is told by a tuple of moments: the first one, then one behind
each event that was not undone. Moments never change, so that going back is
to take an elder tuple again.
"""

from pagelives.deedbars import deeds_at
from pagelives.deedwords import words_against
from pagelives.errors import InvalidEvent
from pagelives.liveevents import is_event
from pagelives.storeharms import harms_at
from pagelives.storesteps import FIRST, store_behind


class Moment:
    """What is told of a live store behind an event; it never changes."""

    def __init__(self, event, history, store, careful, marks, harms):
        self.event = event
        self.history = history
        self.store = store
        self.careful = careful
        # A mark is a name, and how many numbers were used at its moment.
        self.marks = marks
        self.harms = harms


def first_moment(careful):
    """The moment before all events."""
    return Moment(None, (), FIRST, careful, (), ())


def reason_against(rule, moments, most, event):
    """The reason why a value is no event that can come behind these moments, None if it is one."""
    if not is_event(event):
        return "shape"
    if len(moments) > most:
        return "full"
    word, part = event
    if word == "deed":
        return deed_reason(rule, moments[-1], part)
    if word == "careful":
        return "same" if part == moments[-1].careful else None
    return "twice" if part in [name for name, _ in moments[-1].marks] else None


def deed_reason(rule, moment, deed):
    """The reason why a deed by form is not possible at a moment, None if it is."""
    words = words_against(rule, moment.store, deed)
    if words:
        return words[0]
    return "harm" if is_refused(moment, deed) else None


def is_refused(moment, deed):
    """Whether a deed that no word bars is refused at a moment, as it brings a harm."""
    return moment.careful == "on" and len(harms_at(moment.store, deed)) > 0


def deeds_at_moment(rule, moment):
    """The set of the deeds that are possible at a moment, of the pages that were named and without a page."""
    return tuple([deed for deed in deeds_at(rule, moment.store, ()) if not is_refused(moment, deed)])


def through_events(rule, moments, most, events):
    """The moments behind these events, which come one by one; InvalidEvent for the first that is not possible."""
    for event in events:
        moments = behind_event(rule, moments, most, event)
    return moments


def behind_event(rule, moments, most, event):
    """The moments behind an event; InvalidEvent if it is not possible."""
    reason = reason_against(rule, moments, most, event)
    if reason is not None:
        raise InvalidEvent(event, reason)
    return (*moments, next_moment(rule, moments[-1], event))


def next_moment(rule, now, event):
    """The moment behind an event that is possible."""
    word, part = event
    if word == "deed":
        harms = tuple([(len(now.history), harm, page) for harm, page in harms_at(now.store, part)])
        store = store_behind(rule, now.store, part)
        return Moment(event, now.history + (part,), store, now.careful, now.marks, now.harms + harms)
    if word == "careful":
        return Moment(event, now.history, now.store, part, now.marks, now.harms)
    marks = now.marks + ((part, len(now.store[3])),)
    return Moment(event, now.history, now.store, now.careful, marks, now.harms)
