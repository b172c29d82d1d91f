"""Papers that tell which sets of guards are good."""

from pagelives.closures import all_stands
from pagelives.kinds import HARMS
from pagelives.leastrules import greatest_told, least_told, need_choice, together, told_good
from pagelives.searches import harm_history


def rules_paper(*, harms=HARMS, guards, always=()):
    """A paper with the least good sets and the greatest ones that are not, each with what shows it."""
    need_choice(harms, guards, always)
    told = told_good(harms, guards, always)
    good = [(some, all_stands(together(some, always))) for some in least_told(told)]
    bad = [bad_part(some, together(some, always), harms) for some in greatest_told(told)]
    return tuple(good), tuple(bad)


def bad_part(some, rule, harms):
    """The triple of a set, one of harms that can happen by its rule, and a history with it."""
    shown = [(some, harm, harm_history(rule, harm)) for harm in harms]
    return [part for part in shown if part[2] is not None][0]
