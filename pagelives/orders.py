"""Sets as ascending tuples."""


def is_ascending(things):
    """Whether each thing is greater than the one before."""
    return all([one < two for one, two in zip(things, things[1:])])


def ascending(things):
    """The set of these things."""
    return tuple(sorted(set(things)))
