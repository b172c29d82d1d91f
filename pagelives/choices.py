"""Sets of some of given things, and what papers on them have in common; the arguments are not checked here."""

from pagelives.orders import ascending


def sets_of(things):
    """The list of the sets of some of these things, by size, then ascending."""
    found = [()]
    for thing in things:
        found = found + [(*some, thing) for some in found]
    sized = ascending([(len(part), part) for part in found])
    return [some for _, some in sized]


def lies_in(some, other):
    """Whether each member of a set is one of the other set."""
    return all([thing in other for thing in some])


def least_of(sets):
    """Those of these sets that include no other one of them."""
    return ascending([some for some in sets if not any([other != some and lies_in(other, some) for other in sets])])


def greatest_of(sets):
    """Those of these sets that lie in no other one of them."""
    return ascending([some for some in sets if not any([other != some and lies_in(some, other) for other in sets])])


def first_left(things, good, bad):
    """The first set of some of these things that includes none of good and lies in none of bad, None without one."""
    for some in sets_of(things):
        includes = any([lies_in(other, some) for other in good])
        if not includes and not any([lies_in(some, other) for other in bad]):
            return some
    return None


def is_pair(thing):
    """Whether a value is a tuple of two values."""
    return isinstance(thing, tuple) and len(thing) == 2


def are_tuples(thing, many):
    """Whether a value is a tuple of tuples, each of so many values."""
    return isinstance(thing, tuple) and all([isinstance(part, tuple) and len(part) == many for part in thing])
