"""What a log tells of its pages; the arguments are not checked here.

A log is often cut at what is sealed first, so that one question serves for
the sealed records and for all.
"""

from pagelives.orders import ascending

TURNS = ("keep", "plain", "free")
PICTURES = ("keep", "write")
STRIKES = ("strike",)
LIVES = {"keep": "kept", "plain": "plain", "free": "free"}


def last_index(log, page, words):
    """The index of the last record of the page with one of these words, None without one."""
    found = [k for k, record in enumerate(log) if record[1] == page and record[0] in words]
    if found:
        return found[-1]
    return None


def life_told(log, page):
    """Whether the page is "free", "kept" or "plain"."""
    at = last_index(log, page, TURNS)
    if at is None:
        return "free"
    return LIVES[log[at][0]]


def owner_told(log, page):
    """The number of the life of the page, 0 if it is free."""
    at = last_index(log, page, TURNS)
    if at is None or log[at][0] == "free":
        return 0
    return log[at][2]


def due_told(log, page):
    """The due content of the page, None unless it is kept."""
    if life_told(log, page) != "kept":
        return None
    return log[last_index(log, page, PICTURES)][2]


def pages_told(log):
    """The set of the pages that the records name."""
    return ascending([record[1] for record in log])


def put_index(log, point, page):
    """The index of the picture that the log puts to the page, None if it puts nothing."""
    at = last_index(log, page, PICTURES)
    if at is None or at < point or is_struck(log, at):
        return None
    return at


def put_told(log, point, page):
    """The number of the picture that the log puts to the page, None if it puts nothing."""
    at = put_index(log, point, page)
    if at is None:
        return None
    return log[at][2]


def is_struck(log, at):
    """Whether a strike of its page stands behind the record at this index."""
    strike = last_index(log, log[at][1], STRIKES)
    return strike is not None and strike > at
