"""The least rules without harms, and the greatest ones with one."""

from pagelives.choices import greatest_of, least_of, sets_of
from pagelives.closures import is_harmless
from pagelives.kinds import HARMS, are_harms, is_rule
from pagelives.orders import ascending
from pagelives.usable import need

MOST_GUARDS = 8


def least_rules(*, harms=HARMS, guards, always=()):
    """The good sets of some of guards that include no other good one."""
    need_choice(harms, guards, always)
    return least_told(told_good(harms, guards, always))


def greatest_rules(*, harms=HARMS, guards, always=()):
    """The sets of some of guards that are not good and lie in no other one that is not."""
    need_choice(harms, guards, always)
    return greatest_told(told_good(harms, guards, always))


def needed_guards(rule, *, harms=HARMS):
    """The set of the guards without each of which alone one of these harms can happen."""
    # is_harmless refuses what is no rule, then what are no harms; only then the rule is refused for a harm.
    need(is_harmless(rule, harms=harms), "rule")
    return tuple([guard for guard, less in zip(rule, one_less(rule)) if not is_harmless(less, harms=harms)])


def need_choice(harms, guards, always):
    """Refuse what is not as stated, in the order of the parameters."""
    need(are_harms(harms), "harms")
    need(is_rule(guards) and len(guards) <= MOST_GUARDS, "guards")
    need(is_rule(always), "always")


def told_good(harms, guards, always):
    """For each set of some of guards, whether none of harms can happen by it together with always.

    Each set comes behind those that lie in it: one that includes a good set
    is good, and needs no look at its stands.
    """
    good = {}
    for some in sets_of(guards):
        includes = any([good[less] for less in one_less(some)])
        good[some] = includes or is_harmless(together(some, always), harms=harms)
    return good


def least_told(good):
    """The good sets that include no other good one, where it is told which are good."""
    return least_of([some for some in good if good[some]])


def greatest_told(good):
    """The sets that are not good and lie in no other one that is not, where it is told which are good."""
    return greatest_of([some for some in good if not good[some]])


def together(some, always):
    """The rule of the guards of a set and those in always."""
    return ascending(some + always)


def one_less(some):
    """The sets with one guard less, in the order of the guards that are left out."""
    return [some[:k] + some[k + 1:] for k in range(len(some))]
