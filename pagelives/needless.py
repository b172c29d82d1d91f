"""Records that can be left out."""

from pagelives.kinds import is_number
from pagelives.stops import left_behind
from pagelives.stretchtelling import usable_stores, without_records
from pagelives.usable import need


def left_without(rule, history, k):
    """What stops_along would return for the stretch without record k."""
    stores = usable_stores(rule, history)
    need(is_number(k) and k < len(stores[-1][0]), "k")
    return left_at(rule, stores, (k,))


def needless_records(rule, history):
    """The set of the indexes of the records without which no stop leaves anything else."""
    stores = usable_stores(rule, history)
    left = left_at(rule, stores, ())
    return tuple([k for k in range(len(stores[-1][0])) if left_at(rule, stores, (k,)) == left])


def left_at(rule, stores, out):
    """What a stop at each moment leaves in the stretch without these records."""
    return tuple([left_behind(rule, without_records(store, out)) for store in stores])
