"""[19]: texts that are read."""

import inspect
import itertools
import unittest

from pagelives.deedreadings import read_deed, read_deeds, read_record, read_rule
from pagelives.deedtexts import deed_text, history_text, record_text, rule_text
from pagelives.errors import InvalidRow, InvalidText, NotUsable
from pagelives.kinds import GUARDS
from tests.samples import ALL, LOG, ODD, OLD, SIXTY, Case

DEEDS = OLD + (("strike", "abcdefgh"), ("flush", "z"), ("put", "a"), ("point", 1), ("point", SIXTY), ("end",))
WORDS = ("keep", "free", "point", "seal", "a", "1", "01", "A", "")


class OneRow(Case):
    def test_examples(self):
        self.same([read_rule("-"), read_record("keep a 1")], [(), ("keep", "a", 1)])
        self.refused(InvalidRow("dead,ahead"), read_rule, "dead,ahead")

    def test_what_is_written_is_read(self):
        for deed in DEEDS:
            self.same(read_deed(deed_text(deed)), deed)
        for record in LOG + (("plain", "abcdefgh", SIXTY),):
            self.same(read_record(record_text(record)), record)
        for rule in ((), ALL, ("calm",), ("ahead", "dead")):
            self.same(read_rule(rule_text(rule)), rule)

    def test_what_is_read_is_written(self):
        for many in (1, 2, 3, 4):
            for words in itertools.product(WORDS, repeat=many):
                self.check_back(" ".join(words))

    def check_back(self, text):
        for read, write in ((read_deed, deed_text), (read_record, record_text)):
            try:
                thing = read(text)
            except InvalidRow as error:
                self.assertEqual(error.row, text)
            else:
                self.same(write(thing), text)

    def test_no_deeds(self):
        for text in ("", " ", "keep", "keep ", " keep a", "keep  a", "keep a ", "keep a b", "keep A", "keep abcdefghi",
                     "keep 1", "keep a\n", "keep a 1", "seal ", "seal a", "Seal", "seal\n", "\nseal", "seal\nseal",
                     "point", "point a", "point 0", "point 01", "point -1", "point +1", "point 1_0", "point 1x",
                     "point x1", "point 1.0", "point " + "9" * 61, "point " + "1" * 61, "point 1 1", "point 1\n",
                     "reach a"):
            self.refused(InvalidRow(text), read_deed, text)

    def test_no_records(self):
        for text in ("", "keep", "keep a", "keep a 0", "keep a 01", "keep a 1 ", "keep a  1", "keep 1 a", "free a 1",
                     "strike", "seal", "flush a", "keep a 1 1", "write a " + "9" * 61, "plain A 1", "keep a 1\n",
                     "keep a -1", "put a 1"):
            self.refused(InvalidRow(text), read_record, text)

    def test_no_rules(self):
        for text in ("", "--", "- ", " -", "-,dead", "dead,", ",dead", "dead,dead", "dead, fixed", "dead fixed", "Dead",
                     "dead\n", "x", "ahead,dead,calm", ",".join(GUARDS)):
            self.refused(InvalidRow(text), read_rule, text)

    def test_sixty_digits(self):
        self.same(read_deed("point 1" + "0" * 59), ("point", 10 ** 59))
        self.same(read_record("keep a " + "9" * 60), ("keep", "a", SIXTY))

    def test_no_strings(self):
        for read in (read_deed, read_record, read_rule, read_deeds):
            for thing in ODD + (("seal",), ["seal"], OLD):
                if not isinstance(thing, str):
                    self.refused(NotUsable("text", -1), read, thing)
            self.assertEqual(list(inspect.signature(read).parameters), ["text"])


class Rows(Case):
    def fault(self, line, field, text):
        self.refused(InvalidText(line, field), read_deeds, text)

    def test_example(self):
        self.fault(1, 1, "seal\npoint 0")

    def test_what_is_written_is_read(self):
        for row in ((), OLD, DEEDS, (("end",),), (("end",), ("end",))):
            self.same(read_deeds(history_text(row)), row)

    def test_lines(self):
        self.same(read_deeds(""), ())
        self.fault(0, 0, "\n")
        self.fault(1, 0, "seal\n")
        self.fault(0, 0, "\nseal")
        self.fault(1, 0, "seal\n\nseal")
        self.fault(2, 0, "seal\nseal\n")

    def test_first_words(self):
        for text in ("Seal", " ", " seal", "-", "reach a", "a", "1", "seal,"):
            self.fault(0, 0, text)

    def test_missing_words(self):
        for word in ("keep", "plain", "write", "free", "strike", "flush", "put", "point"):
            self.fault(0, 1, word)

    def test_empty_words(self):
        self.fault(0, 1, "keep ")
        self.fault(0, 1, "seal ")
        self.fault(0, 1, "keep  a")
        self.fault(0, 2, "keep a ")
        self.fault(0, 2, "point 1 ")

    def test_words_too_many(self):
        self.fault(0, 1, "seal a")
        self.fault(0, 1, "end end end")
        self.fault(0, 2, "keep a b c")
        self.fault(0, 2, "point 1 2")

    def test_the_first_fault_of_a_line(self):
        self.fault(0, 1, "keep A b")
        self.fault(0, 1, "point 01 2")
        self.fault(0, 1, "point " + "9" * 61)
        self.fault(0, 0, "Keep A b")

    def test_the_first_line(self):
        self.fault(1, 1, "seal\nkeep\nx")
        self.fault(2, 0, "seal\nkeep a\nx\nkeep")

    def test_field_is_the_place_of_the_first_wrong_word(self):
        # The words before the field are the beginning of a deed, and with the field they are none any more.
        beginnings = {text.split(" ")[0] for text in map(deed_text, DEEDS)}
        for many in (1, 2, 3):
            for words in itertools.product(WORDS, repeat=many):
                self.same(self.field_of(" ".join(words)), wanted_field(words, beginnings))

    def field_of(self, text):
        try:
            read_deeds("seal\n" + text)
        except InvalidText as error:
            self.assertEqual(error.line, 1)
            return error.field
        return None


def wanted_field(words, beginnings):
    """The field of the words of a line, from the words of this test alone."""
    if words[0] not in beginnings:
        return 0
    second = {"keep": ("a", "keep", "free", "point", "seal"), "point": ("1",), "seal": None}
    allowed = second[words[0] if words[0] in second else "keep"]
    if allowed is None:
        return None if len(words) == 1 else 1
    if len(words) == 1 or words[1] not in allowed:
        return 1
    return None if len(words) == 2 else 2


if __name__ == "__main__":
    unittest.main()
