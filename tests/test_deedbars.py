"""[23] and [24]: what bars a deed, which deeds are possible, and histories with one deed more."""

import inspect
import unittest

from pagelives.deedbars import after_deed, barred_by, deeds_now
from pagelives.deedreadings import read_deed, read_deeds
from pagelives.errors import InvalidDeed, NotUsable
from pagelives.kinds import GUARDS
from tests.samples import ALL, LOG, ODD, OLD, SIXTY, Case

NO_HISTORIES = ODD + (list(OLD), OLD + (("seal",),), OLD[:1] + (None,))


class Examples(Case):
    def test_barred_by(self):
        told = [barred_by((), OLD, ("seal",)), barred_by(("calm", "quiet"), OLD[:3], ("plain", "a")),
                barred_by((), OLD, ("put", "a"))]
        self.same(told, [("mode",), ("quiet", "calm"), ()])

    def test_deeds_now(self):
        told = [deeds_now((), OLD), deeds_now((), (), "b")]
        self.same(told, [(("point", 1), ("point", 2), ("point", 3), ("put", "a"), ("stop",)),
                         (("keep", "b"), ("plain", "b"), ("stop",), ("strike", "b"))])

    def test_after_deed(self):
        self.refused(InvalidDeed(("end",), "end"), after_deed, (), OLD, ("end",))


class Possible(Case):
    def bars(self, words, text, *deeds):
        """These words bar each of the deeds behind the history, by the rule without guards."""
        history = read_deeds(text.replace(", ", "\n"))
        for deed in deeds:
            self.same(barred_by((), history, read_deed(deed)), tuple(words.split()))

    def test_mode(self):
        self.bars("mode", "", "put a", "end")
        self.bars("mode", "keep a, seal, stop, put a, end", "put a", "end")
        self.bars("mode", "keep a, seal, stop", "keep a", "keep b", "plain b", "write a", "free a", "strike a",
                  "flush a", "seal")
        self.bars("", "keep a, seal, stop", "put a", "point 1", "stop")

    def test_page(self):
        self.bars("page", "keep a", "keep a", "plain a")
        self.bars("page", "plain a", "keep a", "plain a")
        self.bars("page", "", "write a", "free a")
        self.bars("page", "plain a, free a", "write a", "free a")
        self.bars("page", "keep b", "write a", "free a")
        self.bars("", "keep a, free a", "keep a", "plain a")
        self.bars("", "plain a", "write a", "free a")
        self.bars("page", "keep a, stop, end", "write a", "free a")
        self.bars("page", "keep a, seal, free a, stop, put a, end", "keep a")

    def test_held(self):
        self.bars("held", "", "flush a")
        self.bars("held", "plain a", "flush a")
        self.bars("held", "keep a, free a", "flush a")
        self.bars("held", "keep a, seal, stop, put a, end", "flush a")
        self.bars("held", "keep b", "flush a")
        self.bars("", "keep a", "flush a")
        self.bars("", "keep a, flush a", "flush a")
        self.bars("", "plain a, write a, strike a", "flush a")

    def test_put(self):
        self.bars("put", "stop", "put a")
        self.bars("put", "keep a, seal, stop, put a", "put a")
        self.bars("put", "keep a, strike a, seal, stop", "put a")
        self.bars("put", "keep a, seal, point 1, stop", "put a")
        self.bars("put", "keep a, seal, stop, point 1", "put a")
        self.bars("put", "keep a, stop", "put a")
        self.bars("put", "plain a, write a, seal, stop", "put a")
        self.bars("", "keep a, seal, stop, put a, stop", "put a")
        self.bars("", "keep a, free a, plain a, seal, stop", "put a")

    def test_seal(self):
        self.bars("seal", "", "seal")
        self.bars("seal", "keep a, seal", "seal")
        self.bars("seal", "plain a, seal, write a, flush a", "seal")
        self.bars("", "strike a", "seal")

    def test_point(self):
        self.bars("point", "", "point 1")
        self.bars("point", "keep a", "point 1")
        self.bars("point", "keep a, strike b, seal, point 1", "point 1", "point 3", "point " + "9" * 60)
        self.bars("", "keep a, strike b, seal, point 1", "point 2")
        self.bars("point", "keep a, seal, keep b, stop", "point 2")
        self.bars("point", "keep a, seal, point 1, stop", "point 1")

    def test_end(self):
        self.bars("end", "keep a, keep b, seal, stop, put b", "end")
        self.bars("end", "keep a, seal, stop, put a, stop", "end")
        self.bars("", "keep a, keep b, seal, stop, put b, put a", "end")
        self.bars("", "keep a, keep b, seal, stop, put b, point 1", "end")
        self.bars("", "plain a, seal, stop", "end")

    def test_what_is_not_possible_is_told_alone(self):
        self.same(barred_by(("calm", "quiet"), OLD[:1], ("keep", "a")), ("page",))
        self.same(barred_by(("ahead",), (), ("flush", "a")), ("held",))
        self.same(barred_by(("fixed",), OLD, ("point", 4)), ("point",))
        self.same(barred_by(("level",), OLD[:1], ("point", 1)), ("point",))

    def test_guards_of_the_rule_alone(self):
        self.same([barred_by(rule, OLD[:3], ("plain", "a")) for rule in ((), ("quiet",), ("struck",), ("dead",))],
                  [(), ("quiet",), ("struck",), ()])
        self.same(barred_by(tuple(sorted(["calm", "quiet", "struck"])), OLD[:3], ("plain", "a")),
                  ("quiet", "calm", "struck"))


class DeedsNow(Case):
    def test_against_barred_by(self):
        words = ("keep", "plain", "write", "free", "strike", "flush", "put")
        deeds = read_deeds("keep a\nseal\nplain b\nwrite b\nflush a\npoint 1\nstrike c\nseal\nfree a\nstop\nstop\nend")
        for rule in ((), ("ahead",), ("calm", "dead"), ("walked",)):
            for n in range(len(deeds) + 1):
                history = deeds[:n]
                pages = {deed[1] for deed in history if len(deed) == 2 and deed[0] != "point"} | {"d"}
                tried = [(word, page) for word in words for page in pages] + [("seal",), ("stop",), ("end",)]
                tried += [("point", p) for p in range(1, 9)]
                wanted = tuple(sorted([deed for deed in tried if barred_by(rule, history, deed) == ()]))
                self.same(deeds_now(rule, history, "d"), wanted)

    def test_pages_twice(self):
        wanted = deeds_now((), OLD[:1], "b")
        self.same(deeds_now((), OLD[:1], "b", "b", "a"), wanted)
        self.same(wanted, (("flush", "a"), ("free", "a"), ("keep", "b"), ("plain", "b"), ("seal",), ("stop",),
                           ("strike", "a"), ("strike", "b"), ("write", "a")))

    def test_no_pages(self):
        self.same([deeds_now((), ()), deeds_now(ALL, (("stop",),))], [(("stop",),), (("end",), ("stop",))])

    def test_guards_leave_deeds_out(self):
        self.same(deeds_now(("ahead", "dead", "settled"), OLD[:1]), (("seal",), ("stop",), ("write", "a")))

    def test_wrong_pages(self):
        for thing in ODD:
            self.refused(NotUsable("pages", 0), deeds_now, (), OLD, thing)
            self.refused(NotUsable("pages", 1), deeds_now, (), OLD, "a", thing, None)


class AfterDeed(Case):
    def test_one_deed_more(self):
        self.same(after_deed((), (), ("keep", "a")), OLD[:1])
        for n in range(len(OLD)):
            self.same(after_deed((), OLD[:n], OLD[n]), OLD[:n + 1])

    def test_no_deeds(self):
        for thing in ODD + (["end"], LOG[0], ("point", 0), OLD):
            self.refused(InvalidDeed(thing, "deed"), after_deed, (), OLD, thing)

    def test_the_first_word(self):
        rule = ("calm", "quiet")
        self.refused(InvalidDeed(("plain", "a"), "quiet"), after_deed, rule, OLD[:3], ("plain", "a"))
        self.refused(InvalidDeed(("keep", "a"), "page"), after_deed, rule, OLD[:1], ("keep", "a"))
        self.refused(InvalidDeed(("seal",), "mode"), after_deed, (), OLD, ("seal",))


class Wrong(Case):
    def test_rules_come_first(self):
        for ask, rest in ((barred_by, (None,)), (deeds_now, (None,)), (after_deed, (None,))):
            for thing in ODD + (GUARDS, ["calm"], "calm"):
                self.refused(NotUsable("rule", -1), ask, thing, None, *rest)

    def test_histories_come_next(self):
        for ask, rest in ((barred_by, (None,)), (deeds_now, (None,)), (after_deed, (None,))):
            for thing in NO_HISTORIES:
                self.refused(NotUsable("history", -1), ask, (), thing, *rest)
            self.refused(NotUsable("history", -1), ask, ("settled",), OLD, *rest)

    def test_deeds(self):
        for thing in ODD + (["end"], LOG[0], ("point", 0), ("point", True), OLD):
            self.refused(NotUsable("deed", -1), barred_by, (), OLD, thing)

    def test_long_histories_and_large_points(self):
        history = (("strike", "a"), ("seal",)) * 80
        self.same(len(after_deed(ALL, history, ("point", 80))), 161)
        self.same(barred_by((), history, ("point", SIXTY)), ("point",))

    def test_names(self):
        self.assertEqual(list(inspect.signature(barred_by).parameters), ["rule", "history", "deed"])
        self.assertEqual(list(inspect.signature(after_deed).parameters), ["rule", "history", "deed"])
        self.assertEqual(str(inspect.signature(deeds_now)), "(rule, history, *pages)")
        self.same(barred_by(deed=("seal",), history=OLD, rule=()), ("mode",))


if __name__ == "__main__":
    unittest.main()
