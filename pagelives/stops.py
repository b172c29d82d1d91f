"""What a stop behind a history leaves, and its harms."""

from pagelives.deedwords import pages_put
from pagelives.histories import usable_store
from pagelives.orders import ascending
from pagelives.storeharms import harms_brought
from pagelives.storesteps import FIRST, store_through


def going_deeds(rule, history):
    """The deeds of a stop now: stop, the puts by their pages, and end."""
    return deeds_of_stop(usable_store(rule, history))


def left_by_stop(rule, history):
    """The pairs (page, set) of the pages of the history behind a stop now."""
    return left_behind(rule, usable_store(rule, history))


def harms_by_stop(rule, history):
    """The set of the pairs (harm, page) that a stop now brings."""
    return harms_behind(rule, usable_store(rule, history))


def harms_now(rule, history):
    """The set of the pairs (harm, page) of the last deed of the history."""
    usable_store(rule, history)
    return last_harms(harms_brought(rule, FIRST, history))


def left_behind(rule, store):
    """The pairs (page, set) of the pages of a store that stops now."""
    behind = store_through(rule, store, deeds_of_stop(store))
    return tuple([(row[0], row[3]) for row in behind[4]])


def harms_behind(rule, store):
    """The set of the pairs (harm, page) that a stop of a store now brings."""
    brought = harms_brought(rule, store, deeds_of_stop(store))
    return ascending([pair for pairs in brought for pair in pairs])


def last_harms(brought):
    """The harms of the last deed, () if there is no deed."""
    return brought[-1] if brought else ()


def deeds_of_stop(store):
    """The deeds with which a store stops and goes through its log, without another stop or point."""
    log, sealed, point = store[:3]
    puts = [("put", page) for page in pages_put(log[:sealed], point)]
    return (("stop",), *puts, ("end",))
