"""Whether a value is a history by a rule."""

from pagelives.errors import InvalidPaper
from pagelives.histories import gone_through
from pagelives.kinds import is_rule
from pagelives.usable import need


def is_history(rule, thing):
    """Whether a value is a history by the rule."""
    need(is_rule(rule), "rule")
    _, fault = gone_through(rule, thing)
    return fault is None


def lets_history(rule, thing):
    """How many deeds a history by the rule has; InvalidPaper for what is none."""
    need(is_rule(rule), "rule")
    _, fault = gone_through(rule, thing)
    if fault is not None:
        raise InvalidPaper(fault[0], fault[1])
    return len(thing)
