"""Whether a value is a strikes paper."""

from pagelives.choices import are_tuples, first_left, is_pair, least_of, lies_in
from pagelives.errors import InvalidPaper
from pagelives.kinds import is_number
from pagelives.orders import is_ascending
from pagelives.stretchtelling import usable_stores
from pagelives.striketelling import old_pages, old_stops, strikes_of


def lets_strikes(rule, history, thing):
    """The least sets of strikes that are enough, as a strikes paper tells; InvalidPaper for what is none."""
    stores = usable_stores(rule, history)
    strikes = strikes_of(stores[-1][0])
    if not is_pair(thing) or not isinstance(thing[0], tuple) or not are_tuples(thing[1], 3):
        raise InvalidPaper("shape", -1)
    good, bad = thing
    for k, some in enumerate(good):
        if not is_choice(some, strikes):
            raise InvalidPaper("set", (0, k))
        if old_stops(rule, stores, some):
            raise InvalidPaper("old", (0, k))
    for k, (some, n, page) in enumerate(bad):
        if not is_choice(some, strikes):
            raise InvalidPaper("set", (1, k))
        if not is_old_stop(rule, stores, some, n, page):
            raise InvalidPaper("stop", (1, k))
    left = first_left(strikes, good, [part[0] for part in bad])
    if left is not None:
        raise InvalidPaper("left", left)
    return least_of(good)


def is_choice(thing, strikes):
    """Whether a value is a set of some of the strikes."""
    if not isinstance(thing, tuple) or not all([is_number(k) for k in thing]):
        return False
    return is_ascending(thing) and lies_in(thing, strikes)


def is_old_stop(rule, stores, some, n, page):
    """Whether n is a moment, and a stop then brings the harm old on the page, with these strikes alone."""
    return is_number(n) and n < len(stores) and page in old_pages(rule, stores[n], some)
