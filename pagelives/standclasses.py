"""All stands by a rule as a value."""

from pagelives.closures import all_stands, harms_of
from pagelives.follows import follows
from pagelives.kinds import is_number
from pagelives.stands import is_stand
from pagelives.usable import need


class Stands:
    """The stands by a rule; it never changes."""

    def __init__(self, rule):
        self._stands = all_stands(rule)
        self._harms = harms_of(rule)
        self._rule = rule

    @property
    def rule_now(self):
        """The rule."""
        return self._rule

    @property
    def harms_now(self):
        """The set of the harms that can happen by the rule."""
        return self._harms

    def __call__(self, stand):
        return follows(self._rule, stand)

    def __contains__(self, x):
        return is_stand(x) and x in self._stands

    def __getitem__(self, at):
        need(is_number(at) and at < len(self._stands), "k")
        return self._stands[at]

    def __len__(self):
        return len(self._stands)

    def __iter__(self):
        return iter(self._stands)

    def __eq__(self, other):
        return isinstance(other, Stands) and self._stands == other._stands

    # A >= of two Stands needs no method: Python asks this one, with the two exchanged.
    def __le__(self, other):
        if not isinstance(other, Stands):
            return NotImplemented
        return all([stand in other._stands for stand in self._stands])
