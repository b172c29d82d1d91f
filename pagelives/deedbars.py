"""What bars a deed behind a history."""

from pagelives.deedwords import words_against
from pagelives.errors import InvalidDeed
from pagelives.histories import usable_store
from pagelives.kinds import DEED_PARTS, deed_parts, is_deed, is_page
from pagelives.orders import ascending
from pagelives.usable import need, need_all


def barred_by(rule, history, deed):
    """The words that bar a deed behind the history, () if none does."""
    store = usable_store(rule, history)
    need(is_deed(deed), "deed")
    return words_against(rule, store, deed)


def deeds_now(rule, history, *pages):
    """The set of the deeds that no word bars, with pages of the history or these, or without a page."""
    store = usable_store(rule, history)
    need_all([is_page(page) for page in pages], "pages")
    return deeds_at(rule, store, pages)


def after_deed(rule, history, deed):
    """The history with one deed more."""
    store = usable_store(rule, history)
    if not is_deed(deed):
        raise InvalidDeed(deed, "deed")
    words = words_against(rule, store, deed)
    if words:
        raise InvalidDeed(deed, words[0])
    return history + (deed,)


def deeds_at(rule, store, pages):
    """The set of the deeds that no word bars, with pages of the store or these, or without a page."""
    named = ascending([row[0] for row in store[4]] + list(pages))
    deeds = deeds_with(named) + deeds_without(store[1])
    return ascending([deed for deed in deeds if not words_against(rule, store, deed)])


def deeds_with(pages):
    """All deeds that name one of these pages."""
    return [(word, page) for word in DEED_PARTS if deed_parts(word) == ("page",) for page in pages]


def deeds_without(sealed):
    """All deeds without a page, with the points up to the sealed records."""
    points = [("point", p) for p in range(1, sealed + 1)]
    return points + [(word,) for word in DEED_PARTS if deed_parts(word) == ()]
