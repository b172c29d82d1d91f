"""Whether a value is a harm paper."""

from pagelives.errors import InvalidPaper
from pagelives.histories import gone_through
from pagelives.historychecker import lets_history
from pagelives.kinds import is_harm, is_rule
from pagelives.standchecker import lets_stands
from pagelives.storeharms import harms_brought
from pagelives.storesteps import FIRST
from pagelives.usable import need


def lets_harm(rule, harm, thing):
    """Whether the harm can happen, as a harm paper tells; InvalidPaper for what is none."""
    need(is_rule(rule), "rule")
    need(is_harm(harm), "harm")
    if not isinstance(thing, tuple) or len(thing) != 2 or thing[0] not in ("stands", "history"):
        raise InvalidPaper("shape", -1)
    word, part = thing
    if word == "stands":
        lets_stands(rule, part, harms=(harm,))
        return False
    lets_history(rule, part)
    if not brings(rule, part, harm):
        raise InvalidPaper("harm", -1)
    return True


def brings(rule, history, harm):
    """Whether some deed of a history by the rule brings the harm to some page."""
    return any([pair[0] == harm for pairs in harms_brought(rule, FIRST, history) for pair in pairs])


def shows_harm(rule, harm, thing):
    """Whether a value is a history by the rule of which some deed brings the harm."""
    _, fault = gone_through(rule, thing)
    return fault is None and brings(rule, thing, harm)
