"""What follows a stand."""

from pagelives.kinds import is_rule
from pagelives.orders import ascending
from pagelives.stands import is_stand
from pagelives.standwords import steps_by
from pagelives.usable import need


def follows(rule, stand):
    """The triples (word, harm, stand behind it) for each word that can follow."""
    need(is_rule(rule), "rule")
    need(is_stand(stand), "stand")
    return ascending(steps_by(rule, stand))
