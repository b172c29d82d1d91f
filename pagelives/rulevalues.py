"""Rules as values."""

from pagelives.kinds import GUARDS, is_guard, is_rule
from pagelives.orders import ascending
from pagelives.usable import need, need_all


def guard_set(guards):
    """The set of these guards, given in any order."""
    need_all([is_guard(guard) for guard in guards], "guards")
    return ascending(guards)


class Rule:
    """A rule; it never changes."""

    def __init__(self, guards=()):
        need(is_rule(guards), "guards")
        self._guards = guards

    @property
    def guards_now(self):
        """The set of the guards."""
        return self._guards

    @classmethod
    def of(cls, *guards):
        """The Rule of these guards, in any order, equal ones perhaps."""
        return cls(guard_set(guards))

    @classmethod
    def every(cls):
        """The Rule of all guards."""
        return cls(ascending(GUARDS))

    @staticmethod
    def none():
        """The Rule without guards."""
        return Rule()

    def __contains__(self, x):
        return is_guard(x) and x in self._guards

    def __len__(self):
        return len(self._guards)

    def __bool__(self):
        return bool(self._guards)

    def __iter__(self):
        return iter(self._guards)

    def __str__(self):
        if self._guards:
            return ", ".join(self._guards)
        return "-"

    def __eq__(self, other):
        return isinstance(other, Rule) and self._guards == other._guards

    # A >= of two Rules needs no method: Python asks this one, with the two exchanged.
    def __le__(self, other):
        if not isinstance(other, Rule):
            return NotImplemented
        return all([guard in other._guards for guard in self._guards])

    def __or__(self, other):
        need(isinstance(other, Rule), "other")
        return Rule(ascending(self._guards + other._guards))

    def __and__(self, other):
        need(isinstance(other, Rule), "other")
        return Rule(tuple([guard for guard in self._guards if guard in other._guards]))

    def __add__(self, other):
        need(is_guard(other), "guard")
        return Rule(ascending(self._guards + (other,)))

    def __sub__(self, other):
        need(is_guard(other), "guard")
        return Rule(tuple([guard for guard in self._guards if guard != other]))


class Without(Rule):
    """The rule of all guards but these."""

    def __init__(self, *guards):
        left = guard_set(guards)
        super().__init__(ascending([guard for guard in GUARDS if guard not in left]))
        self._left = left

    @property
    def left_now(self):
        """The set of the guards that are left out."""
        return self._left
