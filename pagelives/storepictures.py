"""Stores shown in lines."""

from pagelives.histories import usable_store
from pagelives.logtelling import life_told


def picture(rule, history):
    """The list of the lines that show the store behind a history."""
    return picture_lines(usable_store(rule, history))


def picture_lines(store):
    """The line of the store, and one for each of its pages."""
    log, sealed, point, _, rows, going = store
    word = "runs" if going is None else "goes"
    lines = [page_line(log, row) for row in rows]
    return [f"{word} {point} {sealed} {len(log)}", *lines]


def page_line(log, row):
    """The line of the page of this row."""
    page, content, sure, contents = row
    life = life_told(log, page)
    held = "-" if content is None else str(content)
    how = how_held(content, sure)
    numbers = ",".join([str(number) for number in contents])
    return f"{page:<8} {life:<5} {held:>3} {how:<5} {numbers}"


def how_held(content, sure):
    """The word for what is held."""
    if content is None:
        return "-"
    return "sure" if sure else "loose"
