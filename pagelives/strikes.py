"""Which strikes of a stretch are needed against elder pictures."""

from pagelives.choices import greatest_of, least_of, sets_of
from pagelives.stretchtelling import usable_stores
from pagelives.striketelling import old_stops, strikes_of


def strikes_in(rule, history):
    """The set of the indexes, in the log, of the strikes of a stretch."""
    return strikes_of(usable_stores(rule, history)[-1][0])


def least_strikes(rule, history):
    """The sets of strikes that are enough and include no other one that is."""
    return least_told(told_stops(rule, usable_stores(rule, history)))


def greatest_strikes(rule, history):
    """The sets of strikes that are not enough and lie in no other one that is not."""
    return greatest_told(told_stops(rule, usable_stores(rule, history)))


def strikes_paper(rule, history):
    """A paper with the least sets that are enough, and the greatest ones that are not, each with a stop."""
    told = told_stops(rule, usable_stores(rule, history))
    bad = []
    for some in greatest_told(told):
        n, page = told[some][0]
        bad.append((some, n, page))
    return least_told(told), tuple(bad)


def told_stops(rule, stores):
    """For each set of some of the strikes, the stops that bring the harm old with these alone."""
    told = {}
    for some in sets_of(strikes_of(stores[-1][0])):
        told[some] = old_stops(rule, stores, some)
    return told


def least_told(told):
    """The sets with which no stop brings the harm, and that include no other such one."""
    return least_of([some for some in told if not told[some]])


def greatest_told(told):
    """The sets with which some stop brings the harm, and that lie in no other such one."""
    return greatest_of([some for some in told if told[some]])
