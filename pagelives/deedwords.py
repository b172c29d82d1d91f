"""The words that bar a deed in a store; the arguments are not checked here."""

from pagelives.guardwords import guards_against
from pagelives.logtelling import life_told, pages_told, put_index
from pagelives.storesteps import row_of

RUNNING = ("keep", "plain", "write", "free", "strike", "flush", "seal", "point", "stop")
GOING = ("put", "point", "stop", "end")


def words_against(rule, store, deed):
    """The word why a deed is not possible, alone; otherwise the guards of the rule that bar it."""
    lack = lack_of(store, deed)
    if lack is not None:
        return (lack,)
    return guards_against(rule, store, deed)


def lack_of(store, deed):
    """The word why a deed is not possible, None if it is."""
    words = RUNNING if store[5] is None else GOING
    if deed[0] not in words:
        return "mode"
    if lacks(store, deed):
        return lack_word(deed[0])
    return None


def lack_word(word):
    """What a deed with this word lacks if it is not possible in its mode."""
    if word == "flush":
        return "held"
    if word in ("put", "seal", "point", "end"):
        return word
    return "page"


def lacks(store, deed):
    """Whether a deed, one of the store's mode, is not possible."""
    log, sealed, point, _, rows, going = store
    word = deed[0]
    if word in ("keep", "plain"):
        return life_told(log, deed[1]) != "free"
    if word in ("write", "free"):
        return life_told(log, deed[1]) == "free"
    if word == "flush":
        return row_of(rows, deed[1])[1] is None
    if word == "put":
        return put_index(log, point, deed[1]) is None or deed[1] in going
    if word == "seal":
        return sealed == len(log)
    if word == "point":
        return not point < deed[1] <= sealed
    return word == "end" and any([page not in going for page in pages_put(log, point)])


def pages_put(log, point):
    """The pages to which the log puts a picture."""
    return [page for page in pages_told(log) if put_index(log, point, page) is not None]
