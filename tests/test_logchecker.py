"""[12]: lets_log."""

import unittest

from pagelives.errors import InvalidPaper
from pagelives.logchecker import lets_log
from tests.samples import LOG, ODD, SIXTY, Case


class LetsLog(Case):
    def fault(self, word, at, thing):
        self.refused(InvalidPaper(word, at), lets_log, thing)

    def test_examples(self):
        self.same(lets_log(LOG), 6)
        self.fault("life", 2, LOG[:2] + (("plain", "a", 3),))

    def test_beginnings_are_logs(self):
        for n in range(len(LOG) + 1):
            self.same(lets_log(LOG[:n]), n)

    def test_empty_and_large(self):
        self.same(lets_log(thing=()), 0)
        self.same(lets_log((("keep", "abcdefgh", SIXTY - 1), ("write", "abcdefgh", SIXTY))), 2)

    def test_shape(self):
        for thing in ODD:
            if not isinstance(thing, tuple):
                self.fault("shape", -1, thing)
        self.fault("shape", -1, list(LOG))

    def test_record(self):
        self.fault("record", 0, (("seal",),))
        self.fault("record", 1, (("keep", "a", 1), ["free", "a"]))
        self.fault("record", 0, (("keep", "a", True),))
        self.fault("record", 0, (("keep", "a", 0),))
        for thing in ODD:
            if isinstance(thing, tuple):
                self.fault("record", 0, thing)
            self.fault("record", 1, (("keep", "a", 1), thing))

    def test_number(self):
        self.fault("number", 1, (("keep", "a", 1), ("write", "a", 1)))
        self.fault("number", 1, (("keep", "a", 2), ("plain", "b", 1)))
        self.fault("number", 3, (("keep", "a", 7), ("free", "a"), ("strike", "a"), ("keep", "a", 7)))
        self.fault("number", 2, (("keep", "a", 1), ("keep", "b", 9), ("write", "a", 5)))

    def test_life(self):
        self.fault("life", 1, (("keep", "a", 1), ("keep", "a", 2)))
        self.fault("life", 1, (("keep", "a", 1), ("plain", "a", 2)))
        self.fault("life", 1, (("plain", "a", 1), ("plain", "a", 2)))
        self.fault("life", 1, (("plain", "a", 1), ("keep", "a", 2)))
        self.fault("life", 0, (("write", "a", 1),))
        self.fault("life", 1, (("plain", "a", 1), ("write", "a", 2)))
        self.fault("life", 1, (("keep", "b", 1), ("write", "a", 2)))
        self.fault("life", 0, (("free", "a"),))
        self.fault("life", 2, (("keep", "a", 1), ("free", "a"), ("free", "a")))
        self.fault("life", 2, (("keep", "a", 1), ("free", "a"), ("write", "a", 2)))

    def test_strikes_can_stand_anywhere(self):
        self.same(lets_log((("strike", "a"), ("plain", "a", 1), ("strike", "a"), ("free", "a"), ("strike", "a"))), 5)

    def test_the_first_fault_is_told(self):
        self.fault("number", 1, (("keep", "a", 2), ("keep", "a", 1)))
        self.fault("record", 1, (("keep", "a", 2), ("keep", "a", 0)))
        self.fault("life", 1, (("keep", "a", 1), ("keep", "a", 2), ("keep", "b", 2), None))
        self.fault("number", 1, (("keep", "a", 2), ("write", "b", 2), None))

    def test_strikes_left_out(self):
        log = (("strike", "a"), ("keep", "a", 1), ("strike", "a"), ("free", "a"), ("plain", "a", 2), ("strike", "b"))
        for k in (0, 2, 5):
            self.same(lets_log(log[:k] + log[k + 1:]), 5)


if __name__ == "__main__":
    unittest.main()
