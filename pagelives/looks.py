"""What lies on a page, is held for it, and lives there, behind a history."""

from pagelives.histories import usable_store
from pagelives.kinds import is_number, is_page
from pagelives.logtelling import life_told
from pagelives.storesteps import row_of
from pagelives.usable import need


def set_on(rule, history, page):
    """The set of the contents that may be on the disk there."""
    store = usable_store(rule, history)
    need(is_page(page), "page")
    return row_of(store[4], page)[3]


def held_on(rule, history, page):
    """The pair of what is held, a content or None, and whether it is sure."""
    store = usable_store(rule, history)
    need(is_page(page), "page")
    row = row_of(store[4], page)
    return row[1], row[2]


def life_on(rule, history, page, *, sealed=False):
    """Whether the page is "free", "kept" or "plain" by all records, or by the sealed ones alone."""
    store = usable_store(rule, history)
    need(is_page(page), "page")
    need(isinstance(sealed, bool), "sealed")
    log = store[0][:store[1]] if sealed else store[0]
    return life_told(log, page)


def owner_of(rule, history, number):
    """The number of the life of a number that was used."""
    store = usable_store(rule, history)
    owners = store[3]
    need(is_number(number) and number < len(owners), "number")
    return owners[number]
