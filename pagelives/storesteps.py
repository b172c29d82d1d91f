"""What a possible deed makes of a store; the arguments are not checked here.

A store is the tuple that store_after returns: log, sealed, point, owners,
rows of pages, and what is done while it goes (None while it runs).
"""

from pagelives.logtelling import life_told, owner_told, put_told
from pagelives.orders import ascending

FIRST = ((), 0, 0, (0,), (), None)


def store_through(rule, store, deeds):
    """The store behind these deeds, done one by one from this store on."""
    for deed in deeds:
        store = store_behind(rule, store, deed)
    return store


def store_behind(rule, store, deed):
    """The store behind a deed that is possible and not barred."""
    word = deed[0]
    if word in ("keep", "plain", "write"):
        return behind_making(rule, store, word, deed[1])
    if word in ("free", "strike"):
        return behind_note(store, deed)
    if word == "flush":
        return behind_flush(store, deed[1])
    if word == "put":
        return behind_put(store, deed[1])
    if word == "seal":
        return behind_seal(store)
    return behind_move(store, deed)


def behind_making(rule, store, word, page):
    """The store behind keep, plain or write: they use a new number."""
    log, sealed, point, owners, rows, going = store
    number = len(owners)
    owner = owner_told(log, page) if word == "write" else number
    is_picture = word == "keep" or life_told(log, page) == "kept"
    row = row_of(rows, page)
    # A free page holds nothing: plain leaves its row as it is.
    if word != "plain":
        # By "ahead" a picture may reach the disk only when its record is sealed.
        waits = is_picture and "ahead" in rule
        row = (page, number, False, row[3] if waits else ascending(row[3] + (number,)))
    if is_picture or word == "plain":
        log = log + ((word, page, number),)
    return log, sealed, point, owners + (owner,), with_row(rows, row), going


def behind_note(store, deed):
    """The store behind free or strike: their records are as they are."""
    log, sealed, point, owners, rows, going = store
    row = row_of(rows, deed[1])
    if deed[0] == "free":
        row = without_held(row)
    return log + (deed,), sealed, point, owners, with_row(rows, row), going


def behind_flush(store, page):
    """The store behind a flush: what is held is on the disk alone, and sure."""
    log, sealed, point, owners, rows, going = store
    held = row_of(rows, page)[1]
    return log, sealed, point, owners, with_row(rows, (page, held, True, (held,))), going


def behind_put(store, page):
    """The store behind a put: the picture is on the disk alone, and the page is done."""
    log, sealed, point, owners, rows, going = store
    row = (page, None, False, (put_told(log, point, page),))
    return log, sealed, point, owners, with_row(rows, row), ascending(going + (page,))


def behind_seal(store):
    """The store behind a seal: what is held may reach the disk now, if it could not before."""
    log, _, point, owners, rows, going = store
    return log, len(log), point, owners, tuple([with_held_reached(row) for row in rows]), going


def behind_move(store, deed):
    """The store behind point, stop or end."""
    log, sealed, point, owners, rows, going = store
    if deed[0] == "point":
        return log, sealed, deed[1], owners, rows, going
    empty = tuple([without_held(row) for row in rows])
    if deed[0] == "stop":
        return log[:sealed], sealed, point, owners, empty, ()
    return log, sealed, point, owners, empty, None


def row_of(rows, page):
    """The row of a page, also of one that has none yet."""
    for row in rows:
        if row[0] == page:
            return row
    return page, None, False, (0,)


def with_row(rows, row):
    """The rows with this one for its page, ascending by page."""
    before = [other for other in rows if other[0] < row[0]]
    behind = [other for other in rows if other[0] > row[0]]
    return (*before, row, *behind)


def without_held(row):
    """The row of the same page with nothing held."""
    return row[0], None, False, row[3]


def with_held_reached(row):
    """The row with what is held in its set."""
    if row[1] is None:
        return row
    return row[0], row[1], row[2], ascending(row[3] + (row[1],))
