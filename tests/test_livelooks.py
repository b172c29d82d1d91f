"""[59], [60] and [61]: what live stores tell, and that it is what a fresh start tells."""

import unittest

from pagelives.deedbars import barred_by, deeds_now
from pagelives.deedreadings import read_deeds
from pagelives.errors import NotUsable
from pagelives.historychecker import is_history
from pagelives.lives import Live
from pagelives.liveslogs import replayed
from pagelives.looks import set_on
from pagelives.stops import harms_now, left_by_stop
from pagelives.storepictures import picture
from pagelives.stores import store_after
from tests.draws import Draws
from tests.lively import FORTY, HARMED, SEAL, SOME, as_events, behind, drawn_event, told
from tests.samples import ALL, ODD, OLD, Case


class Looks(Case):
    def test_harms(self):
        live = behind(*as_events(HARMED + (("end",), ("write", "a"), ("flush", "a"), ("stop",), ("put", "a"), ("end",))))
        self.same(live.harms_now, ((7, "old", "a"), (12, "old", "a")))
        both = read_deeds("keep b\nkeep a\nseal\npoint 2\nwrite b\nstop\nend")
        live = behind(("mark", "m"), *as_events(both))
        self.same(live.harms_now, ((6, "missed", "a"), (6, "missed", "b"), (6, "open", "b")))
        live.undo()
        self.same(live.harms_now, ())

    def test_made_since(self):
        live = behind(("mark", "zero"), *as_events(OLD[:1]), ("mark", "one"), *as_events(OLD[1:4]), ("mark", "two"),
                      *as_events(OLD[4:]), ("mark", "three"))
        # A kept life has the number of its first content; 2 is a plain life, 3 a content of it.
        self.same([live.made_since(name) for name in ("zero", "one", "two", "three")], [(1, 2, 3), (2, 3), (3,), ()])
        # Numbers of records that a stop made vanish were made, too.
        live = behind(("mark", "m"), *as_events(read_deeds("keep a\nwrite a\nstop\nend\nplain a")))
        self.same(live.made_since("m"), (1, 2, 3))
        for thing in ODD + ("n", "M", ("m",), ["m"], "mm"):
            self.refused(NotUsable("name", -1), live.made_since, thing)
        self.refused(NotUsable("name", -1), Live().made_since, "m")

    def test_set_on(self):
        live = behind(*as_events(OLD))
        self.same([live.set_on("a"), live.set_on("b"), live.set_on("abcdefgh")], [(0, 1, 3), (0,), (0,)])
        for thing in ODD + (("a",), ["a"], "aB"):
            self.refused(NotUsable("page", -1), live.set_on, thing)

    def test_tally(self):
        live = behind(*as_events(OLD), ("mark", "m"), ("careful", "on"))
        self.same(live.tally(), (("free", 1), ("keep", 1), ("plain", 1), ("seal", 2), ("stop", 1), ("write", 1)))
        self.same(Live().tally(), ())
        self.same(behind(("careful", "on"), ("mark", "keep")).tally(), ())

    def test_table(self):
        live = behind(*as_events(read_deeds("keep zz\nplain abcdefgh\nwrite abcdefgh\nseal\nflush zz")))
        self.same(live.table(), ["abcdefgh plain   3 loose 0,3", "zz       kept    1 sure  1"])
        first, second = live.table(), live.table()
        self.assertIsNot(first, second)
        first.append("x")
        self.same(live.table(), second)

    def test_story(self):
        events = (("mark", "m"), ("careful", "off")) + as_events(OLD)
        live = behind(*events, rule=("dead",), careful="on")
        self.same(live.story(), (("live", ("dead",), "on"), *events))
        live.undo()
        self.same(live.story(), (("live", ("dead",), "on"), *events[:-1]))

    def test_deeds_now(self):
        live = behind(*as_events(OLD), careful="on")
        self.same(live.deeds_now, (("point", 1), ("point", 2), ("point", 3), ("stop",)))
        live.do_deed(("point", 3))
        self.same(live.deeds_now, (("end",), ("stop",)))
        # That it is full does not matter to it.
        self.same(behind(*FORTY).deeds_now, (("stop",),))
        self.same(behind(("mark", "b"), ("deed", ("strike", "c"))).deeds_now,
                  (("keep", "c"), ("plain", "c"), ("seal",), ("stop",), ("strike", "c")))

    def test_pages(self):
        live = behind(*as_events(read_deeds("keep zz\nplain abcdefgh\nwrite abcdefgh\nseal\nflush zz\nstrike c")))
        self.same([live["zz"], live["abcdefgh"], live["c"], len(live)],
                  [("zz", 1, True, (1,)), ("abcdefgh", 3, False, (0, 3)), ("c", None, False, (0,)), 3])
        self.same([page in live for page in ("zz", "abcdefgh", "c", "a", "z")], [True, True, True, False, False])
        for thing in ODD + ("a", "z", ["zz"], ("zz",), slice(0, 1), live):
            self.refused(NotUsable("page", -1), lambda: live[thing])
            self.assertIs(thing in live, False)
        self.refused(NotUsable("page", -1), lambda: Live()["a"])

    def test_it_is_not_iterated_over(self):
        with self.assertRaises(TypeError):
            list(behind(SOME[0]))

    def test_equal(self):
        some = [Live(), Live(("dead",)), Live(careful="on"), behind(SOME[0]), behind(("mark", "a")),
                behind(("mark", "b")), behind(SOME[0], SEAL), behind(("careful", "on"))]
        for one in some:
            for two in some:
                self.assertIs(one == two, one.story() == two.story())
                self.assertIs(one != two, one.story() != two.story())
            for thing in ODD + (one.story(), one.rule_now, one.store_now, [one]):
                self.assertIs(one == thing, False)
                self.assertIs(one != thing, True)
        self.assertEqual(len([1 for one in some for two in some if one == two]), len(some))
        # What was undone, how often operations came and what the class is do not matter.
        live = behind(SOME[0], SEAL)
        live.undo()
        self.assertTrue(live == behind(SOME[0]))
        derived = Derived()
        derived.happen(SOME[0])
        self.assertTrue(behind(SOME[0]) == derived)
        self.assertTrue(derived == behind(SOME[0]))
        # The deeds are the same, the stories are not.
        self.assertFalse(behind(("careful", "on"), ("careful", "off")) == Live())

    def test_two_live_stores_beside_one_another(self):
        one, two = Live(), Live()
        one.do_deed(("keep", "a"))
        self.same([two.history_now, two.counts(), len(two), one.counts()], [(), (0, 0), 0, (1, 1)])


class Derived(Live):
    """A live store of another class."""


class Agreement(Case):
    def agrees(self, live):
        """[61]: what the live store tells is what the functions tell of its rule and history."""
        rule, history = live.rule_now, live.history_now
        self.same(is_history(rule, history), True)
        store = store_after(rule, history)
        self.same([live.store_now, live.log_now, live.left_now], [store, store[0], left_by_stop(rule, history)])
        harms = [(k, *pair) for k in range(len(history)) for pair in harms_now(rule, history[:k + 1])]
        self.same(live.harms_now, tuple(harms))
        deeds = [deed for deed in deeds_now(rule, history)
                 if live.careful_now == "off" or not harms_now(rule, history + (deed,))]
        self.same(live.deeds_now, tuple(deeds))
        self.same(live.table(), picture(rule, history)[1:])
        pages = tuple(sorted({deed[1] for deed in history if len(deed) == 2 and deed[0] != "point"}))
        self.same([[row[0] for row in store[4]], len(live)], [list(pages), len(pages)])
        for page in pages + ("zz",):
            self.same([live.set_on(page), page in live], [set_on(rule, history, page), page in pages])
        words = [deed[0] for deed in history]
        self.same(live.tally(), tuple(sorted({(word, words.count(word)) for word in words})))
        for event in SOME[:9]:
            words = barred_by(rule, history, event[1]) if len(live.story()) <= 40 else ("full",)
            if not words and live.careful_now == "on" and harms_now(rule, history + (event[1],)):
                words = ("harm",)
            self.same(live.barred(event), words[0] if words else None)

    def test_at_each_event(self):
        draws = Draws(61)
        harmed = 0
        for n in range(40):
            live = Live(draws.some_of(ALL, 5), careful=draws.one_of(("off", "off", "on")))
            if n % 2 and is_history(live.rule_now, OLD):
                live.do_all(*as_events(OLD))
            events = list(live.story()[1:])
            for _ in range(24):
                event = drawn_event(draws, live)
                if draws.below(6) == 0 and events:
                    self.same(live.undo(), events.pop())
                elif live.barred(event) is None:
                    live.happen(event)
                    events.append(event)
                self.agrees(live)
            # (L7): it agrees with a fresh start.
            fresh = replayed(live.story())
            self.same([told(fresh), fresh == live], [told(live), True])
            harmed = harmed + (live.harms_now != ())
        self.assertGreater(harmed, 2)

    def test_back_to_each_moment(self):
        draws = Draws(62)
        for _ in range(20):
            live = Live(draws.some_of(ALL, 6))
            moments = [told(live)]
            for _ in range(40):
                event = drawn_event(draws, live)
                if live.barred(event) is None:
                    live.happen(event)
                    moments.append(told(live))
            for moment in moments[-2::-1]:
                live.undo()
                self.same(told(live), moment)


if __name__ == "__main__":
    unittest.main()
