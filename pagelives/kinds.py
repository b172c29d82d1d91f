"""What kind a value is, by its form alone."""

from pagelives.orders import is_ascending

GUARDS = (
    "ahead", "quiet", "calm", "struck", "first", "clean",
    "whole", "level", "settled", "dead", "walked", "fixed",
)
HARMS = ("old", "missed", "open")
LETTERS = "abcdefghijklmnopqrstuvwxyz"
DEED_PARTS = {
    "keep": ("page",),
    "plain": ("page",),
    "write": ("page",),
    "free": ("page",),
    "strike": ("page",),
    "flush": ("page",),
    "put": ("page",),
    "point": ("number",),
    "seal": (),
    "stop": (),
    "end": (),
}
RECORD_PARTS = {
    "keep": ("page", "number"),
    "write": ("page", "number"),
    "plain": ("page", "number"),
    "free": ("page",),
    "strike": ("page",),
}


def is_integer(thing):
    """Whether a value is an int and no bool."""
    return isinstance(thing, int) and not isinstance(thing, bool)


def is_number(thing):
    """Whether a value is an integer that is at least 0."""
    return is_integer(thing) and thing >= 0


def is_page(thing):
    """Whether a value is a string of one to eight lowercase letters."""
    if not isinstance(thing, str) or not 1 <= len(thing) <= 8:
        return False
    return all([letter in LETTERS for letter in thing])


def is_guard(thing):
    """Whether a value is one of the twelve guards."""
    return isinstance(thing, str) and thing in GUARDS


def is_harm(thing):
    """Whether a value is one of the three harms."""
    return isinstance(thing, str) and thing in HARMS


def are_harms(thing):
    """Whether a value is a nonempty tuple of different harms, in any order."""
    if not isinstance(thing, tuple) or not all([is_harm(harm) for harm in thing]):
        return False
    return 0 < len(thing) == len(set(thing))


def is_switch(thing):
    """Whether a value is one of the words on and off."""
    return isinstance(thing, str) and thing in ("on", "off")


def deed_parts(word):
    """The kinds of what stands behind the word of a deed, None if no deed has it."""
    return DEED_PARTS.get(word)


def record_parts(word):
    """The kinds of what stands behind the word of a record, None if no record has it."""
    return RECORD_PARTS.get(word)


def has_word(thing):
    """Whether a value is a tuple that begins with a string."""
    return isinstance(thing, tuple) and len(thing) > 0 and isinstance(thing[0], str)


def is_part(thing, kind):
    """Whether a value can stand in a deed or a record as a part of this kind."""
    if kind == "page":
        return is_page(thing)
    return is_integer(thing) and thing >= 1


def are_parts(things, kinds):
    """Whether values are, one by one, parts of these kinds."""
    if kinds is None or len(things) != len(kinds):
        return False
    return all([is_part(thing, kind) for thing, kind in zip(things, kinds)])


def is_record(thing):
    """Whether a value is a record by form."""
    return has_word(thing) and are_parts(thing[1:], record_parts(thing[0]))


def is_deed(thing):
    """Whether a value is a deed by form."""
    return has_word(thing) and are_parts(thing[1:], deed_parts(thing[0]))


def is_rule(thing):
    """Whether a value is a set of guards, ascending."""
    if not isinstance(thing, tuple) or not all([is_guard(guard) for guard in thing]):
        return False
    return is_ascending(thing)


def page_of(deed):
    """The page that a deed by form names, None if it names none."""
    if deed_parts(deed[0]) == ("page",):
        return deed[1]
    return None
