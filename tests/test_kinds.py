"""[11]: GUARDS, HARMS and the kinds of values."""

import unittest

from pagelives.kinds import (
    GUARDS, HARMS, is_deed, is_integer, is_number, is_page, is_record, is_rule,
)
from tests.samples import ALL, ODD, OLD, LOG, SIXTY, Case

PAGE_WORDS = ("keep", "plain", "write", "free", "strike", "flush", "put")
BARE_WORDS = ("seal", "stop", "end")
NO_PAGES = ("", "A", "aB", "a1", "a b", " a", "a\n", "abcdefghi", None, 1, True, ("a",), ["a"])
NO_COUNTS = (0, -1, True, False, None, "1", (1,), [1])


class Kinds(Case):
    def yes(self, test, *things):
        for thing in things:
            self.assertIs(test(thing), True, thing)

    def no(self, test, *things):
        for thing in things:
            self.assertIs(test(thing), False, thing)

    def test_guards_and_harms(self):
        self.same(GUARDS, ("ahead", "quiet", "calm", "struck", "first", "clean", "whole", "level",
                           "settled", "dead", "walked", "fixed"))
        self.same(HARMS, ("old", "missed", "open"))

    def test_integers_and_numbers(self):
        self.yes(is_integer, 0, 1, -1, SIXTY, -SIXTY)
        self.no(is_integer, True, False, None, "1", (), [1], (1,))
        self.yes(is_number, 0, 1, SIXTY)
        self.no(is_number, -1, -SIXTY, True, False, None, "0", [], ())

    def test_pages(self):
        self.yes(is_page, "a", "z", "abcdefgh", "zzzzzzzz", "keep")
        self.no(is_page, *NO_PAGES)

    def test_deeds(self):
        for word in PAGE_WORDS:
            self.yes(is_deed, (word, "a"), (word, "abcdefgh"))
            self.no(is_deed, (word,), (word, "a", "b"), (word, "a", 1), [word, "a"], word)
            self.no(is_deed, *[(word, page) for page in NO_PAGES])
        for word in BARE_WORDS:
            self.yes(is_deed, (word,))
            self.no(is_deed, (word, "a"), (word, 1), (word, None), [word], word)

    def test_points(self):
        self.yes(is_deed, ("point", 1), ("point", SIXTY))
        self.no(is_deed, ("point",), ("point", "a"), ("point", 1, 1), *[("point", n) for n in NO_COUNTS])

    def test_words_of_other_kinds(self):
        self.no(is_deed, (["keep"], "a"), (("keep",), "a"), (None, "a"), (1,), (), ("reach", "a"), ("Keep", "a"))
        self.no(is_record, (["keep"], "a", 1), (("keep",), "a", 1), (None, "a", 1), (), ("seal",), ("flush", "a"))

    def test_records(self):
        for word in ("keep", "write", "plain"):
            self.yes(is_record, (word, "a", 1), (word, "abcdefgh", SIXTY))
            self.no(is_record, (word,), (word, "a"), (word, "a", 1, 1), [word, "a", 1], (word, 1, "a"))
            self.no(is_record, *[(word, "a", n) for n in NO_COUNTS], *[(word, page, 1) for page in NO_PAGES])
        for word in ("free", "strike"):
            self.yes(is_record, (word, "a"), (word, "abcdefgh"))
            self.no(is_record, (word,), (word, "a", 1), [word, "a"], *[(word, page) for page in NO_PAGES])

    def test_rules(self):
        self.yes(is_rule, (), ALL, ("ahead", "dead"), *[(guard,) for guard in GUARDS])
        self.no(is_rule, GUARDS, ("dead", "ahead"), ("dead", "dead"), ["dead"], [], "dead", "", ("dead", "x"))
        self.no(is_rule, ("dead", None), (1,), ("dead", ["calm"]), (["calm"],), (("calm",),), ("dead", True), None)

    def test_odd_values(self):
        for test in (is_page, is_deed, is_record, is_rule):
            self.no(test, *ODD)
        for thing in ODD:
            for test in (is_integer, is_number):
                self.assertIn(test(thing), (True, False))

    def test_a_deed_is_no_record_of_a_life_and_the_other_way_round(self):
        self.yes(is_deed, *OLD)
        self.yes(is_record, *LOG)
        self.no(is_record, *OLD[:2])
        self.no(is_deed, *LOG[:2])

    def test_by_name(self):
        for test in (is_integer, is_number, is_page, is_record, is_deed, is_rule):
            self.assertIs(test(thing=None), False)


if __name__ == "__main__":
    unittest.main()
