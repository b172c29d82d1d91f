"""What the strikes of a stretch are needed for; the arguments are not checked here.

A stretch is given by the list of its stores at all moments.
"""

from pagelives.stops import harms_behind
from pagelives.stretchtelling import without_records


def strikes_of(log):
    """The set of the indexes of the strikes of a log."""
    return tuple([k for k, record in enumerate(log) if record[0] == "strike"])


def old_pages(rule, store, strikes):
    """The pages on which a stop brings the harm old, in the stretch with these strikes alone."""
    others = [k for k in strikes_of(store[0]) if k not in strikes]
    return [page for harm, page in harms_behind(rule, without_records(store, others)) if harm == "old"]


def old_stops(rule, stores, strikes):
    """The list of the pairs (moment, page) of all stops that bring the harm old, with these strikes alone."""
    return [(n, page) for n, store in enumerate(stores) for page in old_pages(rule, store, strikes)]
