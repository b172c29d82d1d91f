"""The stores at the moments of a stretch, with all records or without some."""

from pagelives.histories import gone_through
from pagelives.kinds import is_rule
from pagelives.storesteps import FIRST, store_behind
from pagelives.usable import need

NOT_ALONG = ("stop", "put", "end")


def is_stretch_by(rule, thing):
    """Whether a value is a history by the rule without stop, put and end."""
    _, fault = gone_through(rule, thing)
    return fault is None and not any([deed[0] in NOT_ALONG for deed in thing])


def usable_stores(rule, history):
    """The list of the stores at all moments; refuses what is no rule, then what is no stretch by it."""
    need(is_rule(rule), "rule")
    need(is_stretch_by(rule, history), "history")
    stores = [FIRST]
    for deed in history:
        stores.append(store_behind(rule, stores[-1], deed))
    return stores


def without_records(store, out):
    """The store without the records at these indexes, those of them that stand in its log."""
    log, sealed, point, owners, rows, going = store
    left = tuple([record for k, record in enumerate(log) if k not in out])
    return left, sealed - many_below(out, sealed), point - many_below(out, point), owners, rows, going


def many_below(indexes, p):
    """How many of these indexes are less than p."""
    return len([k for k in indexes if k < p])
