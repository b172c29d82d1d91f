"""Stands: all that matters of one page, at one content of its set, to what can follow."""

from pagelives.histories import usable_store
from pagelives.kinds import is_number, is_page
from pagelives.orders import ascending
from pagelives.standtelling import stand_told
from pagelives.storesteps import row_of
from pagelives.usable import need

FIRST_STAND = ("runs", "free", "free", True, False, False, False, "none", False, "under", "under")
LIES = {"free": ("under",), "kept": ("under", "due", "over"), "plain": ("under", "own", "over")}
HELD = ("none", "sure", "loose")
PUTS = ("none", "left", "done")


def is_stand(thing):
    """Whether a value is a stand by form."""
    if not isinstance(thing, tuple):
        return False
    if len(thing) == len(FIRST_STAND):
        return is_running(thing)
    return len(thing) == 4 and is_going(thing)


def is_running(thing):
    """Whether a tuple of eleven values is a stand of a store that runs."""
    word, firm, now, same, put, later, late, held, unsealed, lies, lies_now = thing
    if word != "runs" or not fits(firm, lies) or not fits(now, lies_now):
        return False
    if not all([isinstance(part, bool) for part in (same, put, later, late, unsealed)]):
        return False
    return held in HELD and (held == "none" or now != "free")


def is_going(thing):
    """Whether a tuple of four values is a stand of a store that goes."""
    word, firm, put, lies = thing
    return word == "goes" and put in PUTS and fits(firm, lies)


def fits(life, lies):
    """Whether the first value is the word of a life, and the second one fits it."""
    return isinstance(life, str) and lies in LIES.get(life, ())


def stand_of(rule, history, page, content):
    """The stand of a page at a content of its set."""
    store = usable_store(rule, history)
    need(is_page(page), "page")
    need(is_number(content) and content in row_of(store[4], page)[3], "content")
    return stand_told(store, page, content)


def stands_of(rule, history, page):
    """The set of the stands of a page at all contents of its set."""
    store = usable_store(rule, history)
    need(is_page(page), "page")
    return ascending([stand_told(store, page, content) for content in row_of(store[4], page)[3]])
