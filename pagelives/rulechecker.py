"""Whether a value is a rules paper."""

from pagelives.choices import are_tuples, first_left, is_pair, least_of, lies_in
from pagelives.errors import InvalidPaper
from pagelives.harmchecker import shows_harm
from pagelives.kinds import HARMS, is_rule
from pagelives.leastrules import need_choice, together
from pagelives.standchecker import stands_fault


def lets_rules(thing, *, harms=HARMS, guards, always=()):
    """The least good sets of some of guards, as a rules paper tells; InvalidPaper for what is none."""
    need_choice(harms, guards, always)
    if not is_pair(thing) or not are_tuples(thing[0], 2) or not are_tuples(thing[1], 3):
        raise InvalidPaper("shape", -1)
    good, bad = thing
    for k, part in enumerate(good):
        word = good_fault(part, harms, guards, always)
        if word is not None:
            raise InvalidPaper(word, (0, k))
    for k, part in enumerate(bad):
        word = bad_fault(part, harms, guards, always)
        if word is not None:
            raise InvalidPaper(word, (1, k))
    left = first_left(guards, [part[0] for part in good], [part[0] for part in bad])
    if left is not None:
        raise InvalidPaper("left", left)
    return least_of([part[0] for part in good])


def good_fault(part, harms, guards, always):
    """The word for the first fault of a pair (set, stands), None without one."""
    some, stands = part
    if not is_choice(some, guards):
        return "set"
    if stands_fault(together(some, always), stands, harms) is not None:
        return "stands"
    return None


def bad_fault(part, harms, guards, always):
    """The word for the first fault of a triple (set, harm, history), None without one."""
    some, harm, history = part
    if not is_choice(some, guards):
        return "set"
    if harm not in harms:
        return "harm"
    if not shows_harm(together(some, always), harm, history):
        return "history"
    return None


def is_choice(thing, guards):
    """Whether a value is a set of some of guards."""
    return is_rule(thing) and lies_in(thing, guards)
