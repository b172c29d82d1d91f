"""[62] and [64]: stories, and live stores replayed from them."""

import inspect
import unittest

from pagelives.errors import Broken, InvalidEvent, NotUsable
from pagelives.kinds import GUARDS
from pagelives.lives import Live
from pagelives.liveslogs import is_story, replayed
from tests.draws import Draws
from tests.lively import FORTY, HARMED, NO_EVENTS, SEAL, SOME, as_events, behind, drawn_event, told
from tests.samples import ALL, ODD, OLD, Case

BEGIN = ("live", (), "off")


class Is(Case):
    def test_stories(self):
        for rule in ((), ("dead",), ALL):
            for careful in ("on", "off"):
                for events in ((), SOME, SOME + SOME, as_events(OLD), FORTY, FORTY + FORTY):
                    self.same(is_story((("live", rule, careful), *events)), True)

    def test_possible_or_not(self):
        self.same(is_story((BEGIN, ("careful", "off"), ("deed", ("end",)), ("mark", "m"), ("mark", "m"))), True)

    def test_beginnings(self):
        for thing in ODD + (BEGIN[:2], BEGIN + ("m",), list(BEGIN), ("Live", (), "off"), ("live", "off", ()),
                            ("live", [], "off"), ("live", GUARDS, "off"), ("live", ("x",), "off"),
                            ("live", (), "On"), ("live", (), None), ("live", (), True), ("live", (), ("off",)),
                            ("live", (), ["off"]), ("deed", (), "off"), (["live"], (), "off"), ("mark", "m")):
            self.same(is_story((thing,)), False)
            self.same(is_story((thing, ("mark", "m"))), False)

    def test_events(self):
        for thing in NO_EVENTS:
            self.same(is_story((BEGIN, thing)), False)
            self.same(is_story((BEGIN, ("mark", "m"), thing, SEAL)), False)
        self.same(is_story((BEGIN, BEGIN)), False)
        self.same(is_story((("mark", "m"), BEGIN)), False)

    def test_shapes(self):
        for thing in ODD + ((), BEGIN, [BEGIN], [BEGIN, SEAL], (BEGIN, [SEAL]), Live(), {}, "live off -"):
            self.same(is_story(thing), False)
        self.assertEqual(str(inspect.signature(is_story)), "(thing)")

    def test_what_live_stores_tell(self):
        for live in (Live(), Live(ALL, careful="on"), behind(*as_events(HARMED)), behind(*FORTY)):
            self.same(is_story(live.story()), True)


class Replayed(Case):
    def test_it_is_equal(self):
        # [64]: it tells the same but for counts.
        for live in (Live(), Live(ALL, careful="on"), behind(*as_events(HARMED), ("mark", "m")), behind(*FORTY),
                     behind(("careful", "off"), *as_events(OLD), rule=("dead",), careful="on")):
            again = replayed(live.story())
            self.assertIs(type(again), Live)
            self.assertIsNot(again, live)
            self.same([told(again), again == live, again.counts()], [told(live), True, (0, 0)])

    def test_drawn_stories(self):
        draws = Draws(64)
        for _ in range(30):
            live = Live(draws.some_of(ALL, 5), careful=draws.one_of(("on", "off")))
            for _ in range(40):
                event = drawn_event(draws, live)
                if live.barred(event) is None:
                    live.happen(event)
            again = replayed(live.story())
            self.same([told(again), again == live, again.counts()], [told(live), True, (0, 0)])
            # Behind it both go on alike.
            for event in SOME + (("undo",),):
                if event == ("undo",) or live.barred(event) is None:
                    self.same(told(step(again, event)), told(step(live, event)))
                    self.assertTrue(again == live)

    def test_marks_and_undo(self):
        live = replayed((BEGIN, ("mark", "m"), ("deed", ("keep", "a")), ("mark", "n"), SEAL))
        self.same([live.made_since("m"), live.made_since("n"), live.undo(), live.undo()],
                  [(1,), (), SEAL, ("mark", "n")])
        self.same(live.counts(), (2, 2))

    def test_the_first_that_is_not_possible(self):
        for events, k, reason in (
            ((("deed", ("end",)), ("mark", "m")), 0, "mode"), ((("mark", "m"), SEAL, ("careful", "off")), 1, "seal"),
            ((("careful", "off"),), 0, "same"), ((("mark", "m"), ("mark", "m")), 1, "twice"),
            ((("careful", "on"), *as_events(HARMED)), 8, "harm"), (FORTY + (("deed", ("end",)), SEAL), 40, "full"),
        ):
            self.refused(InvalidEvent(events[k], reason), replayed, (BEGIN, *events))
        self.refused(InvalidEvent(("deed", ("free", "a")), "settled"), replayed, (("live", ALL, "off"), *as_events(OLD)))
        self.refused(InvalidEvent(("deed", ("put", "a")), "harm"), replayed, (("live", (), "on"), *as_events(HARMED)))

    def test_what_is_no_story(self):
        for thing in ODD + ((), BEGIN, [BEGIN], (BEGIN, None), (("live", (), "On"),)):
            self.refused(NotUsable("story", -1), replayed, thing)
        self.assertEqual(str(inspect.signature(replayed)), "(story)")
        self.same(replayed(story=(BEGIN,)).story(), (BEGIN,))

    def test_it_is_new_each_time(self):
        story = (BEGIN, SOME[0])
        one, two = replayed(story), replayed(story)
        one.undo()
        self.same([two.story(), story], [(BEGIN, SOME[0]), (BEGIN, SOME[0])])
        with self.assertRaises(Broken):
            two.do_all(SEAL, SEAL)
        self.same(two.story(), story)


def step(live, event):
    """The live store behind an event, or behind an undo."""
    if event == ("undo",):
        live.undo()
    else:
        live.happen(event)
    return live


if __name__ == "__main__":
    unittest.main()
