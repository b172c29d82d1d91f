"""[8]: each of the twelve guards barring a deed, and not barring it."""

import unittest

from pagelives.deedbars import barred_by
from pagelives.deedreadings import read_deed, read_deeds
from pagelives.guardwords import guards_against
from pagelives.histories import gone_through
from pagelives.historychecker import is_history
from pagelives.kinds import GUARDS
from tests.samples import ALL, Case

# A guard that bars a deed, with nothing in its way in the history, and which other guards bar it, too.
ALONE = (
    ("ahead", "keep a", "flush a"),
    ("quiet", "plain a, free a", "plain a"),
    ("calm", "strike b", "keep a"),
    ("struck", "keep a, seal, flush a, free a, seal", "plain a"),
    ("first", "keep a, free a, plain a", "seal"),
    ("clean", "keep a, seal", "point 1"),
    ("whole", "keep a, seal, flush a, free a", "point 1"),
    ("level", "strike a, seal, strike a", "point 1"),
    ("settled", "keep a", "free a"),
    ("dead", "keep a", "strike a"),
    ("walked", "keep a, seal, stop", "point 1"),
    ("fixed", "strike a, seal, stop", "point 1"),
)
ALSO = {"quiet": ("calm",), "whole": ("level",), "walked": ("fixed",)}


class Guards(Case):
    def bars(self, guards, text, deed):
        """Just these of all guards bar the deed behind this history."""
        history = read_deeds(text.replace(", ", "\n"))
        deed = read_deed(deed)
        self.same(barred_by((), history, deed), ())
        store, _ = gone_through((), history)
        told = guards_against(ALL, store, deed)
        self.same(told, tuple(guards.split()))
        for guard in GUARDS:
            if is_history((guard,), history):
                self.same(barred_by((guard,), history, deed), (guard,) if guard in told else ())

    def test_each_alone(self):
        for guard, text, deed in ALONE:
            history = read_deeds(text.replace(", ", "\n"))
            self.same(barred_by((guard,), history, read_deed(deed)), (guard,))
            rest = tuple([other for other in ALL if other != guard])
            others = tuple([other for other in rest if other in ALSO.get(guard, ())])
            if is_history(rest, history):
                self.same(barred_by(rest, history, read_deed(deed)), others)

    def test_ahead(self):
        self.bars("ahead", "keep a", "flush a")
        self.bars("ahead", "keep a, seal, write a", "flush a")
        self.bars("ahead", "keep a, seal, strike a, write a", "flush a")
        self.bars("", "keep a, seal", "flush a")
        self.bars("", "keep a, seal, keep b", "flush a")
        self.bars("", "plain a, write a", "flush a")
        self.bars("", "keep a, seal, free a, plain a, write a", "flush a")
        self.bars("", "keep a, seal, strike a", "flush a")

    def test_quiet_and_calm(self):
        self.bars("quiet calm", "keep a, free a", "keep a")
        self.bars("quiet calm", "plain a, seal, free a", "keep a")
        self.bars("quiet calm", "plain a, seal, free a", "plain a")
        self.bars("calm", "strike a", "keep a")
        self.bars("calm", "keep b", "keep a")
        self.bars("calm", "keep b", "plain a")
        self.bars("calm", "strike b", "plain a")
        self.bars("", "plain a, free a, seal", "keep a")
        self.bars("", "keep b, seal", "keep a")
        self.bars("", "plain a, free a, stop, end", "keep a")

    def test_struck(self):
        self.bars("struck", "keep a, free a, seal", "plain a")
        self.bars("quiet calm struck", "keep a, free a", "plain a")
        self.bars("", "keep a, free a, seal", "keep a")
        self.bars("", "keep a, free a, strike a, seal", "plain a")
        self.bars("calm", "keep a, free a, seal, strike a", "plain a")
        self.bars("", "keep a, free a, seal, point 1", "plain a")
        self.bars("", "keep b, seal", "plain a")

    def test_first(self):
        self.bars("first", "keep a, free a, plain a", "seal")
        self.bars("first", "keep a, free a, seal, plain a", "seal")
        self.bars("first", "keep a, free a, plain a, seal, keep b", "seal")
        self.bars("", "keep a, free a, plain a, strike a", "seal")
        self.bars("", "keep a, free a", "seal")
        self.bars("", "keep a, seal, point 1, free a, plain a", "seal")
        self.bars("", "keep a, free a, keep a", "seal")

    def test_clean(self):
        self.bars("clean", "keep a, seal", "point 1")
        self.bars("clean", "keep b, flush b, keep a, seal", "point 2")
        self.bars("clean level", "keep a, seal, flush a, write a", "point 1")
        self.bars("", "keep a, seal, flush a", "point 1")
        self.bars("", "keep a, flush a, seal", "point 1")
        self.bars("", "strike b, keep a, seal", "point 1")
        self.bars("", "plain a, write a, seal", "point 1")

    def test_clean_of_a_picture_before_the_point_already(self):
        text = "keep a, flush a, strike b, seal, point 1, write a"
        self.bars("clean level", text, "point 2")
        self.bars("clean", "keep a, strike b, seal, point 1", "point 2")

    def test_clean_only_of_a_life_whose_keep_is_sealed(self):
        self.bars("level", "strike a, seal, keep a", "point 1")
        self.bars("whole level", "keep a, flush a, seal, free a, keep a", "point 1")
        self.bars("clean", "keep a, free a, keep a, seal", "point 3")
        self.bars("", "keep a, free a, keep a, seal", "point 2")

    def test_clean_of_the_last_sealed_picture(self):
        self.bars("", "keep a, write a, seal", "point 1")
        self.bars("clean", "keep a, write a, seal", "point 2")
        self.bars("clean level", "keep a, seal, write a", "point 1")

    def test_whole(self):
        self.bars("whole level", "keep a, flush a, seal, free a", "point 1")
        self.bars("whole level", "keep a, flush a, seal, free a, plain a", "point 1")
        self.bars("whole level", "keep a, flush a, seal, free a, keep a, flush a", "point 1")
        self.bars("", "keep a, flush a, seal, free a, seal", "point 1")
        self.bars("level", "keep a, flush a, seal, write a, flush a", "point 1")
        self.bars("level", "strike b, keep a, flush a, seal, free a", "point 1")
        self.bars("level", "plain a, seal, free a", "point 1")
        self.bars("level", "keep a, write a, flush a, seal, free a", "point 1")
        self.bars("whole level", "keep a, write a, flush a, seal, free a", "point 2")

    def test_whole_of_a_picture_that_was_passed_before(self):
        self.bars("level", "keep a, flush a, strike b, seal, point 1, free a", "point 2")

    def test_level(self):
        self.bars("level", "strike a, seal, strike a", "point 1")
        self.bars("", "strike a, strike a, seal", "point 1")

    def test_settled(self):
        self.bars("settled", "keep a", "free a")
        self.bars("settled", "keep a, seal", "free a")
        self.bars("settled", "keep a, flush a, write a", "free a")
        self.bars("", "keep a, flush a", "free a")
        self.bars("", "plain a, write a", "free a")
        self.bars("", "keep a, seal, stop, put a, end", "free a")

    def test_dead(self):
        self.bars("dead", "keep a", "strike a")
        self.bars("dead", "plain a, free a, keep a", "strike a")
        self.bars("", "keep a, free a", "strike a")
        self.bars("", "keep a, free a, plain a", "strike a")
        self.bars("", "keep a", "strike b")
        self.bars("", "", "strike a")

    def test_walked_and_fixed(self):
        self.bars("walked fixed", "keep a, seal, stop", "point 1")
        self.bars("walked fixed", "keep a, keep b, seal, stop, put a", "point 2")
        self.bars("fixed", "keep a, keep b, seal, stop, put a", "point 1")
        self.bars("fixed", "keep a, seal, stop, put a", "point 1")
        self.bars("fixed", "strike b, keep a, seal, stop", "point 1")
        self.bars("fixed", "keep a, strike a, seal, stop", "point 2")
        self.bars("fixed", "keep a, write a, seal, stop", "point 1")
        self.bars("walked fixed", "keep a, seal, stop, put a, stop", "point 1")

    def test_nothing_bars_these(self):
        for text, deed in (("keep a", "write a"), ("plain a", "write a"), ("keep a", "stop"), ("stop", "stop"),
                           ("keep a, seal, stop", "put a"), ("keep a, free a, plain a, seal, stop", "put a"),
                           ("stop", "end"), ("keep a, seal, stop, put a", "end"), ("plain a", "free a")):
            self.bars("", text, deed)

    def test_several_at_once_in_the_order_of_guards(self):
        self.several("clean whole level", "keep a, keep b, flush b, seal, write a, free b", "point 2")
        self.several("quiet calm struck", "keep a, free a", "plain a")
        self.several("walked fixed", "keep a, seal, stop", "point 1")

    def several(self, guards, text, deed):
        """These guards bar the deed, told together and in this order by rules that allow the history."""
        history = read_deeds(text.replace(", ", "\n"))
        rule = tuple(sorted(guards.split()))
        self.same(barred_by(rule, history, read_deed(deed)), tuple(guards.split()))
        for left in rule:
            fewer = tuple([guard for guard in rule if guard != left])
            wanted = tuple([guard for guard in guards.split() if guard != left])
            self.same(barred_by(fewer, history, read_deed(deed)), wanted)

    def test_all_guards_at_work(self):
        text = "keep a, seal, flush a, point 1, free a, seal, plain a, write a, flush a, seal, stop, end"
        history = read_deeds(text.replace(", ", "\n"))
        self.same(barred_by(ALL, history, ("free", "a")), ())
        self.same(barred_by(ALL, history + (("free", "a"),), ("keep", "a")), ("quiet", "calm"))


if __name__ == "__main__":
    unittest.main()
