"""All stands by a rule, and the harms that can happen by it."""

from pagelives.kinds import HARMS, are_harms, is_rule
from pagelives.orders import ascending
from pagelives.standwalks import walk
from pagelives.usable import need


def all_stands(rule):
    """The set of the stands to which FIRST_STAND leads by what follows."""
    need(is_rule(rule), "rule")
    stands, _ = walk(rule, ())
    return ascending(list(stands))


def harms_of(rule):
    """The set of the harms that can happen in a history by the rule."""
    need(is_rule(rule), "rule")
    return ascending([harm for harm in HARMS if not is_without(rule, (harm,))])


def is_harmless(rule, *, harms=HARMS):
    """Whether none of harms can happen in a history by the rule."""
    need(is_rule(rule), "rule")
    need(are_harms(harms), "harms")
    return is_without(rule, harms)


def is_without(rule, harms):
    """Whether going from stand to stand brings none of these harms."""
    _, last = walk(rule, harms)
    return last is None
