"""[54]: events by kind."""

import inspect
import unittest

from pagelives.deedbars import deeds_now
from pagelives.kinds import is_deed
from pagelives.liveevents import is_event
from tests.lively import NO_EVENTS, SOME
from tests.samples import ODD, OLD, Case


class Kinds(Case):
    def test_events(self):
        for event in SOME:
            self.same(is_event(event), True)
        for deed in OLD + deeds_now((), OLD) + deeds_now((), (), "zz", "abcdefgh"):
            self.same(is_event(("deed", deed)), True)

    def test_possible_or_not(self):
        for deed in (("end",), ("put", "zz"), ("point", 10 ** 59)):
            self.same(is_event(("deed", deed)), True)

    def test_no_events(self):
        for thing in NO_EVENTS:
            self.same(is_event(thing), False)

    def test_odd_parts(self):
        for thing in ODD:
            self.assertFalse(is_deed(thing))
            for word in ("deed", "careful", "mark"):
                self.same(is_event((word, thing)), False)
                self.same(is_event([word, thing]), False)
            for part in (("seal",), "on", "a"):
                self.same(is_event((thing, part)), False)

    def test_names(self):
        for name in ("a", "z", "abcdefgh", "zzzzzzzz", "on", "mark"):
            self.same(is_event(("mark", name)), True)
        for name in ("", "abcdefghi", "A", "a b", "a\n", "a1", "-", None, 1):
            self.same(is_event(("mark", name)), False)

    def test_parameter(self):
        self.assertEqual(str(inspect.signature(is_event)), "(thing)")
        self.same(is_event(thing=("mark", "a")), True)


if __name__ == "__main__":
    unittest.main()
