"""Whether rules are alike."""

from pagelives.closures import harms_of
from pagelives.kinds import is_rule
from pagelives.usable import need

# For a guard, the one that bars whatever it bars. "struck" lets nothing happen that "first" would bar.
COVERS = {"quiet": "calm", "first": "struck", "whole": "level", "walked": "fixed"}

# For each guard, a history whose last deed it bars. No other guard bars a deed of this history, but for the one
# that covers it: so this is a history by each rule that has neither of the two.
PARTINGS = {
    "ahead": (("keep", "a"), ("flush", "a")),
    "quiet": (("plain", "a"), ("free", "a"), ("plain", "a")),
    "calm": (("strike", "a"), ("keep", "a")),
    "struck": (("keep", "a"), ("seal",), ("flush", "a"), ("free", "a"), ("seal",), ("plain", "a")),
    "first": (("keep", "a"), ("seal",), ("flush", "a"), ("free", "a"), ("seal",), ("plain", "a"), ("seal",)),
    "clean": (("keep", "a"), ("seal",), ("point", 1)),
    "whole": (("keep", "a"), ("seal",), ("flush", "a"), ("free", "a"), ("point", 1)),
    "level": (("strike", "a"), ("seal",), ("strike", "a"), ("point", 1)),
    "settled": (("keep", "a"), ("free", "a")),
    "dead": (("keep", "a"), ("strike", "a")),
    "walked": (("keep", "a"), ("seal",), ("stop",), ("point", 1)),
    "fixed": (("strike", "a"), ("seal",), ("stop",), ("point", 1)),
}


def have_same_harms(rule, other):
    """Whether the same harms can happen by both rules."""
    need_rules(rule, other)
    return harms_of(rule) == harms_of(other)


def is_included(rule, other):
    """Whether each history by rule is one by other."""
    need_rules(rule, other)
    return not parting_guards(rule, other)


def have_same_histories(rule, other):
    """Whether the histories by both rules are the same."""
    need_rules(rule, other)
    return not parting_guards(rule, other) and not parting_guards(other, rule)


def parting_history(rule, other):
    """A history by rule of the page a that is none by other, None if there is none."""
    need_rules(rule, other)
    guards = parting_guards(rule, other)
    return PARTINGS[guards[0]] if guards else None


def parting_guards(rule, other):
    """The guards of other that bar something that rule does not bar."""
    return [guard for guard in other if guard not in rule and COVERS.get(guard) not in rule]


def need_rules(rule, other):
    """Refuse what is no rule, in the order of the parameters."""
    need(is_rule(rule), "rule")
    need(is_rule(other), "other")
