"""Events of live stores by kind."""

from pagelives.kinds import is_deed, is_page, is_switch


def is_event(thing):
    """Whether a value is an event by kind."""
    if not isinstance(thing, tuple) or len(thing) != 2:
        return False
    word, part = thing
    if word == "deed":
        return is_deed(part)
    if word == "careful":
        return is_switch(part)
    # A name has the form of a page.
    return word == "mark" and is_page(part)
