"""Stores as data."""

from pagelives.histories import usable_store
from pagelives.storesteps import FIRST


def first_store():
    """The store at first."""
    return FIRST


def store_after(rule, history):
    """The store behind a history by the rule."""
    return usable_store(rule, history)
