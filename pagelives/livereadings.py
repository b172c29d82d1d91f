"""Events and stories read from lines."""

from pagelives.deedreadings import first_wrong, parts_read
from pagelives.errors import InvalidText
from pagelives.kinds import deed_parts
from pagelives.usable import need

EVENT_PARTS = {"careful": ("switch",), "mark": ("page",)}
BEGINNING_PARTS = {"live": ("switch", "rule")}


def read_event(text):
    """The event by kind that a string writes."""
    need(isinstance(text, str), "text")
    event, field = event_read(text)
    if field is not None:
        raise InvalidText(0, field)
    return event


def read_story(lines):
    """The story that a list of strings writes."""
    need(isinstance(lines, list) and all([isinstance(text, str) for text in lines]), "lines")
    story = []
    # An empty list is one empty line.
    for line, text in enumerate(lines or [""]):
        part, field = event_read(text) if line > 0 else beginning_read(text)
        if field is not None:
            raise InvalidText(line, field)
        story.append(part)
    return tuple(story)


def event_read(text):
    """The event of a line and None; or None and the index of the first word that cannot stand or is missing."""
    words = text.split(" ")
    if words[0] != "deed":
        return words_read(words, EVENT_PARTS.get(words[0]))
    if len(words) == 1:
        return None, 1
    deed, field = words_read(words[1:], deed_parts(words[1]))
    if deed is None:
        return None, field + 1
    return ("deed", deed), None


def beginning_read(text):
    """The beginning of a story in a line and None; or None and the first word that cannot stand or is missing."""
    words = text.split(" ")
    parts, field = words_read(words, BEGINNING_PARTS.get(words[0]))
    if parts is None:
        return None, field
    word, careful, rule = parts
    return (word, rule, careful), None


def words_read(words, kinds):
    """What words with parts of these kinds write and None; or None and what first_wrong tells of them."""
    field = first_wrong(words, kinds)
    if field is not None:
        return None, field
    return parts_read(words, kinds), None
