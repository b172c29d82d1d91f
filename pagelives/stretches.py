"""Stretches: what a stop at each moment leaves, and its harms."""

from pagelives.kinds import is_rule
from pagelives.stops import harms_behind, left_behind
from pagelives.stretchtelling import is_stretch_by, usable_stores
from pagelives.usable import need


def is_stretch(rule, thing):
    """Whether a value is a history by the rule without stop, put and end."""
    need(is_rule(rule), "rule")
    return is_stretch_by(rule, thing)


def stops_along(rule, history):
    """For each moment of a stretch, the pairs (page, set) that a stop then leaves."""
    return tuple([left_behind(rule, store) for store in usable_stores(rule, history)])


def harms_along(rule, history):
    """For each moment of a stretch, the set of the pairs (harm, page) that a stop then brings."""
    return tuple([harms_behind(rule, store) for store in usable_stores(rule, history)])
