"""Texts of deeds, records, rules and histories."""

from pagelives.kinds import is_deed, is_record, is_rule
from pagelives.usable import need


def deed_text(deed):
    """The parts of a deed with single spaces between."""
    need(is_deed(deed), "deed")
    return parts_text(deed)


def record_text(record):
    """The parts of a record with single spaces between."""
    need(is_record(record), "record")
    return parts_text(record)


def rule_text(rule):
    """The guards of a rule with single commas between, - without any."""
    need(is_rule(rule), "rule")
    return ",".join(rule) or "-"


def history_text(history):
    """The texts of deeds with newlines between."""
    need(isinstance(history, tuple) and all([is_deed(deed) for deed in history]), "history")
    return "\n".join([parts_text(deed) for deed in history])


def parts_text(parts):
    """Strings and numbers with single spaces between."""
    return " ".join([str(part) for part in parts])
