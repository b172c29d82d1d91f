"""Deeds, records and rules read from texts."""

from pagelives.errors import InvalidRow, InvalidText
from pagelives.kinds import deed_parts, is_page, is_rule, is_switch, record_parts
from pagelives.usable import need

DIGITS = "0123456789"
MOST_DIGITS = 60


def read_deed(text):
    """The deed that a string writes."""
    need(isinstance(text, str), "text")
    words = text.split(" ")
    return read_words(text, words, deed_parts(words[0]))


def read_record(text):
    """The record that a string writes."""
    need(isinstance(text, str), "text")
    words = text.split(" ")
    return read_words(text, words, record_parts(words[0]))


def read_rule(text):
    """The rule that a string writes."""
    need(isinstance(text, str), "text")
    guards = guards_read(text)
    if not is_rule(guards):
        raise InvalidRow(text)
    return guards


def read_deeds(text):
    """The tuple of deeds that a string writes, one in each line."""
    need(isinstance(text, str), "text")
    if text == "":
        return ()
    deeds = []
    for line, row in enumerate(text.split("\n")):
        words = row.split(" ")
        kinds = deed_parts(words[0])
        field = first_wrong(words, kinds)
        if field is not None:
            raise InvalidText(line, field)
        deeds.append(parts_read(words, kinds))
    return tuple(deeds)


def read_words(text, words, kinds):
    """The deed or record of these words of a text, with parts of these kinds."""
    if first_wrong(words, kinds) is not None:
        raise InvalidRow(text)
    return parts_read(words, kinds)


def first_wrong(words, kinds):
    """The index of the first word that cannot stand, or behind the last if one is missing; None if all are well.

    kinds are those of the words behind the first one, None if this one cannot stand.
    """
    if kinds is None:
        return 0
    for k, (word, kind) in enumerate(zip(words[1:], kinds)):
        if not can_stand(word, kind):
            return k + 1
    many = len(kinds) + 1
    if len(words) == many:
        return None
    return min(len(words), many)


def can_stand(word, kind):
    """Whether a word writes a part of this kind."""
    if kind == "page":
        return is_page(word)
    if kind == "switch":
        return is_switch(word)
    if kind == "rule":
        return is_rule(guards_read(word))
    return writes_number(word)


def writes_number(word):
    """Whether a word is a number from 1 on as texts write it."""
    if not 1 <= len(word) <= MOST_DIGITS or word[0] == "0":
        return False
    return all([digit in DIGITS for digit in word])


def parts_read(words, kinds):
    """The tuple that words write, all of which can stand."""
    parts = [part_read(word, kind) for word, kind in zip(words[1:], kinds)]
    return (words[0], *parts)


def part_read(word, kind):
    """The part of this kind that a word writes, which can stand."""
    if kind == "number":
        return int(word)
    return guards_read(word) if kind == "rule" else word


def guards_read(word):
    """The tuple of the guards that a word names, a rule or not."""
    return () if word == "-" else tuple(word.split(","))
