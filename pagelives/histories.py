"""Going through histories by a rule."""

from pagelives.deedwords import words_against
from pagelives.kinds import is_deed, is_rule
from pagelives.storesteps import FIRST, store_behind
from pagelives.usable import need


def gone_through(rule, thing):
    """The store behind a history and None; or None and why and where a value is no history by the rule."""
    if not isinstance(thing, tuple):
        return None, ("shape", -1)
    store = FIRST
    for k, deed in enumerate(thing):
        if not is_deed(deed):
            return None, ("deed", k)
        words = words_against(rule, store, deed)
        if words:
            return None, (words[0], k)
        store = store_behind(rule, store, deed)
    return store, None


def usable_store(rule, history):
    """The store behind a history; refuses what is no rule, then what is no history by it."""
    need(is_rule(rule), "rule")
    store, fault = gone_through(rule, history)
    need(fault is None, "history")
    return store
