"""Questions to a log."""

from pagelives.kinds import is_number, is_page
from pagelives.logchecker import is_log
from pagelives.logtelling import PICTURES, due_told, is_struck, life_told, owner_told, pages_told, put_told
from pagelives.orders import ascending
from pagelives.usable import need


def life_in(log, page):
    """Whether the page is "free", "kept" or "plain" by all records."""
    need_page(log, page)
    return life_told(log, page)


def owner_in(log, page):
    """The number of the life of the page, 0 if it is free."""
    need_page(log, page)
    return owner_told(log, page)


def due_in(log, page):
    """The due content of the page, None unless it is kept."""
    need_page(log, page)
    return due_told(log, page)


def pages_in(log):
    """The set of the pages that the records name."""
    need(is_log(log), "log")
    return pages_told(log)


def put_in(log, point, page):
    """The number of the picture that the log puts to the page, None if it puts nothing."""
    need_point(log, point)
    need(is_page(page), "page")
    return put_told(log, point, page)


def puts_in(log, point):
    """The pairs (page, number) of all pages to which the log puts something."""
    need_point(log, point)
    pairs = [(page, put_told(log, point, page)) for page in pages_told(log)]
    return tuple([pair for pair in pairs if pair[1] is not None])


def struck_in(log, point):
    """The indexes, from the point on, of the pictures behind which a strike of their page stands."""
    need_point(log, point)
    found = [k for k, record in enumerate(log) if k >= point and record[0] in PICTURES and is_struck(log, k)]
    return ascending(found)


def need_page(log, page):
    """Refuse what is no log, then what is no page."""
    need(is_log(log), "log")
    need(is_page(page), "page")


def need_point(log, point):
    """Refuse what is no log, then what is no point of it."""
    need(is_log(log), "log")
    need(is_number(point) and point <= len(log), "point")
