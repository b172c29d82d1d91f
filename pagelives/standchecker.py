"""Whether a value is a closed list of stands without harms."""

from pagelives.errors import InvalidPaper
from pagelives.kinds import HARMS, are_harms, is_rule
from pagelives.stands import FIRST_STAND, is_stand
from pagelives.standwords import steps_by
from pagelives.usable import need


def lets_stands(rule, thing, *, harms=HARMS):
    """How many stands a closed list without these harms has; InvalidPaper for what is none."""
    need(is_rule(rule), "rule")
    need(are_harms(harms), "harms")
    fault = stands_fault(rule, thing, harms)
    if fault is not None:
        raise InvalidPaper(fault[0], fault[1])
    return len(thing)


def stands_fault(rule, thing, harms):
    """The word and the place of the first fault of a value as such a list, None without one."""
    fault = row_fault(thing)
    if fault is not None:
        return fault
    listed = set(thing)
    for k, stand in enumerate(thing):
        steps = steps_by(rule, stand)
        if any([behind not in listed for _, _, behind in steps]):
            return "follow", k
        if any([harm in harms for _, harm, _ in steps]):
            return "harm", k
    return None


def row_fault(thing):
    """The first fault of a value as an ascending row of stands, FIRST_STAND among them, None without one."""
    if not isinstance(thing, tuple):
        return "shape", -1
    for k, stand in enumerate(thing):
        if not is_stand(stand) or (k > 0 and not thing[k - 1] < stand):
            return "stand", k
    if FIRST_STAND not in thing:
        return "first", -1
    return None
