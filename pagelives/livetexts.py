"""Lines of events and stories."""

from pagelives.deedtexts import deed_text, rule_text
from pagelives.liveevents import is_event
from pagelives.liveslogs import is_story
from pagelives.usable import need


def event_line(event):
    """The line of an event."""
    need(is_event(event), "event")
    word, part = event
    text = deed_text(part) if word == "deed" else part
    return f"{word} {text}"


def story_lines(story):
    """The list of the lines of a story: that of its beginning, and those of its events."""
    need(is_story(story), "story")
    _, rule, careful = story[0]
    lines = [event_line(event) for event in story[1:]]
    return [f"live {careful} {rule_text(rule)}", *lines]
