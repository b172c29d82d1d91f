"""The guards that bar a possible deed; the arguments are not checked here."""

from pagelives.kinds import GUARDS
from pagelives.logtelling import PICTURES, TURNS, last_index, life_told, pages_told, put_index
from pagelives.storesteps import row_of


def guards_against(rule, store, deed):
    """The guards of the rule that bar a possible deed, in the order of GUARDS."""
    against = all_against(store, deed)
    return tuple([guard for guard in GUARDS if guard in rule and guard in against])


def all_against(store, deed):
    """The list of all guards that bar a possible deed, in any order."""
    word = deed[0]
    if word in ("keep", "plain"):
        return against_life(store, word, deed[1])
    if word in ("flush", "free", "strike"):
        return against_kept(store, word, deed[1])
    if word == "seal":
        return chosen([("first", puts_to_plain(store))])
    if word == "point":
        return against_point(store, deed[1])
    return []


def chosen(pairs):
    """The guards of those pairs (guard, whether it bars) that bar."""
    return [guard for guard, bars in pairs if bars]


def against_life(store, word, page):
    """The guards that bar keep or plain."""
    log, sealed, point = store[:3]
    return chosen([
        ("quiet", has_turn(log[sealed:], page)),
        ("calm", sealed < len(log)),
        ("struck", word == "plain" and put_index(log, point, page) is not None),
    ])


def against_kept(store, word, page):
    """The guards that bar flush, free or strike: only of a kept page."""
    log, sealed = store[:2]
    if life_told(log, page) != "kept":
        return []
    # What a kept page holds is its last picture: nothing is held behind free, stop and end.
    return chosen([
        ("ahead", word == "flush" and last_index(log, page, PICTURES) >= sealed),
        ("settled", word == "free" and is_loose(store, page)),
        ("dead", word == "strike"),
    ])


def against_point(store, p):
    """The guards that bar a point p."""
    log, sealed = store[:2]
    pages = pages_told(log)
    if store[5] is not None:
        return chosen([
            ("walked", any([passes_put(store, page, p) for page in pages])),
            ("fixed", True),
        ])
    return chosen([
        ("clean", any([leaves_loose(store, page, p) for page in pages])),
        ("whole", any([passes_ended(store, page, p) for page in pages])),
        ("level", sealed < len(log)),
    ])


def has_turn(log, page):
    """Whether some keep, plain or free of the page is among these records."""
    return last_index(log, page, TURNS) is not None


def is_loose(store, page):
    """Whether the page holds something that is not sure."""
    row = row_of(store[4], page)
    return row[1] is not None and not row[2]


def puts_to_plain(store):
    """Whether the log puts something to a page that is plain."""
    log, _, point = store[:3]
    plain = [page for page in pages_told(log) if life_told(log, page) == "plain"]
    return any([put_index(log, point, page) is not None for page in plain])


def leaves_loose(store, page, p):
    """Whether a point p stands behind the last sealed picture of a kept page that holds something loose."""
    log, sealed = store[:2]
    firm = log[:sealed]
    # A life whose keep is sealed has no later turn: it would have ended.
    if life_told(firm, page) != "kept" or has_turn(log[sealed:], page):
        return False
    return last_index(firm, page, PICTURES) < p and is_loose(store, page)


def passes_ended(store, page, p):
    """Whether a point p passes the last sealed picture of a page whose sealed kept life has ended since."""
    log, sealed, point = store[:3]
    firm = log[:sealed]
    if life_told(firm, page) != "kept" or not has_turn(log[sealed:], page):
        return False
    return point <= last_index(firm, page, PICTURES) < p


def passes_put(store, page, p):
    """Whether a point p passes the picture that the log puts to a page that is not done."""
    at = put_index(store[0], store[2], page)
    return at is not None and at < p and page not in store[5]
