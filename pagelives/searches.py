"""Shortest histories with a harm."""

from pagelives.kinds import deed_parts, is_harm, is_rule
from pagelives.standwalks import words_to_harm
from pagelives.storesteps import FIRST, store_behind
from pagelives.usable import need


def harm_history(rule, harm):
    """A shortest history by the rule of the page a whose last deed brings the harm, None if there is none."""
    need(is_rule(rule), "rule")
    need(is_harm(harm), "harm")
    words = words_to_harm(rule, (harm,))
    if words is None:
        return None
    return history_with(rule, words)


def history_with(rule, words):
    """The history of the page a of which the deeds have these words."""
    store = FIRST
    deeds = []
    for word in words:
        deed = deed_with(store, word)
        store = store_behind(rule, store, deed)
        deeds.append(deed)
    return tuple(deeds)


def deed_with(store, word):
    """The deed with this word, of the page a."""
    if word == "point":
        # Words of stands tell of points that pass a picture of the page: the farthest one passes all.
        return word, store[1]
    return (word, "a") if deed_parts(word) == ("page",) else (word,)
