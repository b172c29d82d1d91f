"""Whether a value is a log."""

from pagelives.errors import InvalidPaper
from pagelives.kinds import is_record
from pagelives.logtelling import LIVES


def lets_log(thing):
    """How many records a log has; InvalidPaper for what is no log."""
    fault = log_fault(thing)
    if fault is not None:
        raise InvalidPaper(fault[0], fault[1])
    return len(thing)


def is_log(thing):
    """Whether lets_log accepts a value."""
    return log_fault(thing) is None


def log_fault(thing):
    """The word and the place of the first fault of a value as a log, None without one."""
    if not isinstance(thing, tuple):
        return "shape", -1
    lives = {}
    last = 0
    for k, record in enumerate(thing):
        if not is_record(record):
            return "record", k
        word = record[0]
        page = record[1]
        if len(record) == 3:
            if record[2] <= last:
                return "number", k
            last = record[2]
        if not can_come(word, lives.get(page, "free")):
            return "life", k
        if word in LIVES:
            lives[page] = LIVES[word]
    return None


def can_come(word, life):
    """Whether a record with this word can come while its page has this life."""
    if word in ("keep", "plain"):
        return life == "free"
    if word == "write":
        return life == "kept"
    return word == "strike" or life != "free"
