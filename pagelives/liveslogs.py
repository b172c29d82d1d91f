"""Stories of live stores, and live stores replayed from them."""

from pagelives.kinds import is_rule, is_switch
from pagelives.liveevents import is_event
from pagelives.livemoments import through_events
from pagelives.lives import Live
from pagelives.usable import need


def is_story(thing):
    """Whether a value is a tuple of a beginning and of events by kind, possible or not."""
    if not isinstance(thing, tuple) or len(thing) == 0 or not is_beginning(thing[0]):
        return False
    return all([is_event(event) for event in thing[1:]])


def is_beginning(thing):
    """Whether a value is the beginning of a story."""
    if not isinstance(thing, tuple) or len(thing) != 3:
        return False
    word, rule, careful = thing
    return word == "live" and is_rule(rule) and is_switch(careful)


def replayed(story):
    """A new live store behind the events of a story, with no operations counted."""
    need(is_story(story), "story")
    _, rule, careful = story[0]
    live = Live(rule, careful=careful)
    live.moments = through_events(rule, live.moments, live.MOST, story[1:])
    return live
