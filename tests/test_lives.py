"""[55] to [58] and [61]: live stores, how events come to them, and are taken back."""

import inspect
import unittest

from pagelives.deedreadings import read_deeds
from pagelives.errors import Broken, InvalidEvent, NothingToUndo, NotUsable
from pagelives.historychecker import is_history
from pagelives.kinds import GUARDS
from pagelives.lives import Live
from pagelives.liveslogs import replayed
from pagelives.stores import first_store, store_after
from tests.draws import Draws
from tests.lively import FORTY, HARMED, NO_EVENTS, SEAL, SOME, as_events, behind, told
from tests.samples import ALL, ODD, OLD, Case

MISSED = (("keep", "a"), ("seal",), ("point", 1), ("stop",), ("end",))


class Making(Case):
    def test_at_first(self):
        live = Live()
        self.same([live.rule_now, live.history_now, live.store_now, live.log_now, live.careful_now, live.counts()],
                  [(), (), first_store(), (), "off", (0, 0)])
        self.same([live.deeds_now, live.harms_now, live.left_now, live.tally(), live.table(), live.story(), len(live)],
                  [(("stop",),), (), (), (), [], (("live", (), "off"),), 0])

    def test_rule_and_careful(self):
        live = Live(("ahead", "dead"), careful="on")
        self.same([live.rule_now, live.careful_now, live.story()],
                  [("ahead", "dead"), "on", (("live", ("ahead", "dead"), "on"),)])
        self.same(Live(careful="on", rule=ALL).rule_now, ALL)
        self.assertEqual(str(inspect.signature(Live)), "(rule=(), *, careful='off')")
        with self.assertRaises(TypeError):
            Live((), "on")

    def test_wrong_making(self):
        for thing in ODD + (GUARDS, ["calm"], "calm", ("calm", "calm")):
            self.refused(NotUsable("rule", -1), Live, thing)
            self.refused(NotUsable("rule", -1), Live, thing, careful=None)
        for thing in ODD + ("On", "ON", " on", ("on",), ["on"], "onoff", ""):
            self.refused(NotUsable("careful", -1), Live, (), careful=thing)

    def test_most(self):
        self.same([Live.MOST, Live().MOST], [40, 40])

    def test_properties(self):
        for name in ("rule_now", "history_now", "store_now", "log_now", "careful_now", "deeds_now", "harms_now",
                     "left_now"):
            self.assertIs(type(vars(Live)[name]), property)
            if name != "careful_now":
                with self.assertRaises(AttributeError):
                    setattr(Live(), name, ())

    def test_signatures(self):
        wanted = {"happen": "(event)", "do_deed": "(deed)", "set_careful": "(word)", "mark": "(name)",
                  "barred": "(event)", "tried": "(*events)", "trial": "()", "undo": "()",
                  "do_all": "(*events, keep=False)", "counts": "()", "set_on": "(page)", "made_since": "(name)",
                  "tally": "()", "table": "()", "story": "()"}
        for name, parameters in wanted.items():
            self.assertEqual(str(inspect.signature(getattr(Live(), name))), parameters)
        live = Live()
        self.same([live.happen(event=("mark", "m")), live.do_deed(deed=("keep", "a")), live.set_careful(word="on"),
                   live.mark(name="n"), live.barred(event=SEAL), live.set_on(page="a"), live.made_since(name="m")],
                  [0, 1, 1, 1, None, (0, 1), (1,)])


class Example(Case):
    def test_example(self):
        live = Live()
        self.same([live.do_all(*as_events(OLD)), live["a"], live.deeds_now, live.left_now],
                  [7, ("a", None, False, (0, 1, 3)),
                   (("point", 1), ("point", 2), ("point", 3), ("put", "a"), ("stop",)), (("a", (1,)),)])
        self.same([live.set_careful("on"), live.barred(("deed", ("put", "a"))), live.barred(("deed", ("end",))),
                   live.undo()], [7, "harm", "end", ("careful", "on")])
        self.same([live.mark("m"), live.do_deed(("put", "a")), live.harms_now, live.set_on("a"), live.made_since("m"),
                   live.table()], [7, 8, ((7, "old", "a"),), (1,), (), ["a        plain   - -     1"]])


def ways(event):
    """All ways to apply an event, each a function of a live store."""
    word, part = event
    found = [lambda live: live.happen(event), lambda live: add_to(live, event)]
    if word == "deed":
        found.append(lambda live: live.do_deed(part))
    if word == "careful":
        found.append(lambda live: live.set_careful(part))
        found.append(lambda live: setattr(live, "careful_now", part))
    if word == "mark":
        found.append(lambda live: live.mark(part))
    return found


def add_to(live, event):
    """Apply an event by +=."""
    same = live
    live += event
    assert live is same


class Ways(Case):
    def test_they_apply_the_event(self):
        before = as_events(OLD[:2]) + (("mark", "m"),)
        for event in (("deed", ("free", "a")), ("careful", "on"), ("mark", "n")):
            wanted = behind(*before, event)
            for way in ways(event):
                live = behind(*before)
                many = way(live)
                self.same(told(live), told(wanted))
                self.assertIn(many, (None, len(wanted.history_now)))
                self.same(live.counts(), (4, 4))

    def test_what_they_return(self):
        live = Live()
        self.same([live.mark("m"), live.set_careful("on"), live.do_deed(("keep", "a")), live.happen(("mark", "n")),
                   live.happen(SEAL), live.set_careful("off"), live.happen(("deed", ("stop",)))], [0, 0, 1, 1, 2, 2, 3])

    def test_a_failure_changes_nothing_but_counts(self):
        for event, reason in ((("deed", ("keep", "a")), "page"), (("careful", "off"), "same"), (("mark", "m"), "twice"),
                              (("deed", ("put", "a")), "mode"), (("deed", None), "shape"), (("mark", "M"), "shape"),
                              (("careful", None), "shape"), (("careful", ["on"]), "shape"), (("mark", []), "shape")):
            for way in ways(event):
                live = behind(*as_events(OLD[:2]), ("mark", "m"))
                before = told(live)
                self.refused(InvalidEvent(event, reason), way, live)
                self.same([told(live), live.counts()], [before, (4, 4)])
                self.same(live.made_since("m"), ())

    def test_an_event_behind_forty(self):
        for event in (("deed", ("keep", "a")), ("careful", "on"), ("mark", "m")):
            for way in ways(event):
                live = behind(*FORTY)
                before = told(live)
                self.refused(InvalidEvent(event, "full"), way, live)
                self.refused(InvalidEvent(event, "full"), live.tried, event)
                with self.assertRaises(Broken) as caught:
                    live.do_all(event)
                self.same(vars(caught.exception), {"done": 0})
                self.same(told(live), before)
                live.undo()
                if event[0] != "careful":
                    way(live)
                    self.same(live.story()[40], event)
        live = behind(*FORTY[:39])
        self.same([live.do_all(("mark", "m")), len(live.story())], [1, 41])

    def test_no_events(self):
        for thing in NO_EVENTS:
            live = behind(("mark", "m"))
            self.refused(InvalidEvent(thing, "shape"), live.happen, thing)
            self.refused(InvalidEvent(thing, "shape"), add_to, live, thing)
            self.refused(InvalidEvent(thing, "shape"), live.tried, thing)
            self.same([live.barred(thing), live.counts(), live.story()[1:]], ["shape", (3, 3), (("mark", "m"),)])


class Reasons(Case):
    def reason(self, wanted, event, *events, rule=(), careful="off"):
        live = behind(*events, rule=rule, careful=careful)
        self.same(live.barred(event), wanted)
        if wanted is None:
            live.happen(event)
            self.same(live.story()[-1], event)
        else:
            self.refused(InvalidEvent(event, wanted), live.happen, event)

    def test_words_of_deeds(self):
        self.reason("page", ("deed", ("free", "a")))
        self.reason("mode", ("deed", ("end",)))
        self.reason("held", ("deed", ("flush", "a")))
        self.reason("seal", SEAL)
        self.reason("point", ("deed", ("point", 1)))
        self.reason("end", ("deed", ("end",)), *as_events(OLD))
        self.reason("put", ("deed", ("put", "b")), *as_events(OLD))
        self.reason("settled", ("deed", ("free", "a")), *as_events(OLD[:2]), rule=ALL)
        # Several guards bar it: the first one in the order of GUARDS.
        self.reason("quiet", ("deed", ("plain", "a")), *as_events(OLD[:3]), rule=("calm", "quiet"))
        self.reason("walked", ("deed", ("point", 1)), *as_events(OLD), rule=("fixed", "walked"))
        self.reason(None, ("deed", ("keep", "a")))

    def test_harm(self):
        self.reason("harm", ("deed", ("put", "a")), *as_events(OLD), careful="on")
        self.reason("harm", ("deed", ("put", "a")), *as_events(OLD), ("careful", "on"))
        self.reason("harm", ("deed", ("end",)), *as_events(MISSED[:4]), careful="on")
        self.reason(None, ("deed", ("put", "a")), *as_events(OLD))
        self.reason(None, ("deed", ("put", "a")), *as_events(OLD), ("careful", "off"), careful="on")
        self.reason("end", ("deed", ("end",)), *as_events(OLD), careful="on")
        self.reason(None, ("deed", ("end",)), *as_events(OLD), ("deed", ("point", 3)), careful="on")
        opened = read_deeds("plain a\nseal\nfree a\nplain a\nwrite a\nstop")
        self.reason("harm", ("deed", ("end",)), *as_events(opened), careful="on")

    def test_careful_and_mark(self):
        self.reason("same", ("careful", "off"))
        self.reason("same", ("careful", "on"), careful="on")
        self.reason("same", ("careful", "on"), ("careful", "on"))
        self.reason(None, ("careful", "off"), ("careful", "on"))
        self.reason(None, ("careful", "on"))
        self.reason("twice", ("mark", "m"), ("mark", "m"))
        self.reason("twice", ("mark", "m"), ("mark", "m"), ("mark", "n"), ("deed", ("keep", "a")))
        self.reason(None, ("mark", "n"), ("mark", "m"))
        self.reason(None, ("mark", "a"), ("deed", ("keep", "a")))

    def test_which_comes_first(self):
        self.reason("shape", ("mark", "M"), *FORTY)
        self.reason("shape", None, *FORTY)
        self.reason("full", ("careful", "off"), *FORTY)
        self.reason("full", ("deed", ("end",)), *FORTY)
        self.reason("full", ("mark", "m"), ("mark", "m"), *FORTY[:39])
        self.reason("full", ("deed", ("put", "a")), *as_events(OLD), *FORTY[:33])
        self.reason("harm", ("deed", ("put", "a")), *as_events(OLD), *FORTY[:31])

    def test_a_careful_store_is_led_to_no_harm(self):
        draws = Draws(56)
        refused = 0
        for _ in range(60):
            live = Live(draws.some_of(ALL, 6), careful="on")
            for deed in draws.history(live.rule_now, 12, ("a", "b"), ((), OLD, HARMED, MISSED)):
                if live.barred(("deed", deed)) is None:
                    live.do_deed(deed)
                elif live.barred(("deed", deed)) == "harm":
                    refused = refused + 1
            self.same(live.harms_now, ())
            self.assertTrue(is_history(live.rule_now, live.history_now))
        self.assertGreater(refused, 20)


class Undo(Case):
    def test_each_sort_of_event(self):
        for event in (("deed", ("free", "a")), ("deed", ("strike", "zz")), ("deed", ("point", 1)), ("deed", ("stop",)),
                      ("careful", "on"), ("mark", "n")):
            live = behind(*as_events(OLD[:2]), ("mark", "m"))
            before = told(live)
            live.happen(event)
            self.assertNotEqual(told(live), before)
            self.same(live.undo(), event)
            self.same([told(live), live.counts(), live.made_since("m")], [before, (5, 5), ()])

    def test_a_going_store(self):
        live = behind(*as_events(OLD))
        before = told(live)
        live.do_deed(("put", "a"))
        live.do_deed(("end",))
        self.same([live.undo(), live.undo()], [("deed", ("end",)), ("deed", ("put", "a"))])
        self.same(told(live), before)

    def test_to_the_beginning(self):
        live = behind(*as_events(OLD))
        for deed in OLD[::-1]:
            self.same(live.undo(), ("deed", deed))
        self.same(told(live), told(Live()))
        self.refused(NothingToUndo(0), live.undo)
        self.same([told(live), live.counts()], [told(Live()), (15, 15)])

    def test_nothing(self):
        live = Live()
        self.refused(NothingToUndo(0), live.undo)
        self.refused(NothingToUndo(0), live.undo)
        self.same(live.counts(), (2, 2))

    def test_behind_a_batch(self):
        live = behind(("mark", "m"))
        live.do_all(*as_events(OLD[:3]), ("careful", "on"))
        self.same([live.undo(), live.undo()], [("careful", "on"), ("deed", ("free", "a"))])
        self.same(told(live), told(behind(("mark", "m"), *as_events(OLD[:2]))))

    def test_names_are_free_again(self):
        live = behind(("mark", "m"), ("deed", ("keep", "a")), ("mark", "n"))
        live.undo()
        self.refused(NotUsable("name", -1), live.made_since, "n")
        self.same([live.barred(("mark", "n")), live.barred(("mark", "m"))], [None, "twice"])
        live.do_deed(("write", "a"))
        live.mark("n")
        live.do_deed(("write", "a"))
        self.same([live.made_since("n"), live.made_since("m")], [(3,), (1, 2, 3)])

    def test_pages_that_an_undone_deed_alone_had_named(self):
        live = behind(("deed", ("keep", "a")), ("deed", ("plain", "b")))
        self.same(["b" in live, len(live)], [True, 2])
        live.undo()
        self.same(["b" in live, len(live), live.set_on("b")], [False, 1, (0,)])
        self.refused(NotUsable("page", -1), lambda: live["b"])
        self.assertNotIn(("write", "b"), live.deeds_now)
        self.assertNotIn(("keep", "b"), live.deeds_now)
        self.same(live.left_now, (("a", (0, 1)),))

    def test_room_for_another_event(self):
        live = behind(*FORTY)
        live.undo()
        self.same([live.barred(("mark", "m")), live.mark("m"), live.barred(("mark", "n"))], [None, 0, "full"])


class Batches(Case):
    def broken(self, live, done, cause, *events, **more):
        """do_all breaks, from this error."""
        with self.assertRaises(Broken) as caught:
            live.do_all(*events, **more)
        self.same(vars(caught.exception), {"done": done})
        self.assertIs(type(caught.exception.__cause__), InvalidEvent)
        self.same(vars(caught.exception.__cause__), vars(cause))

    def test_all(self):
        live = Live()
        self.same([live.do_all(), live.counts(), live.story()], [0, (1, 1), (("live", (), "off"),)])
        self.same([live.do_all(keep=True), live.counts()], [0, (2, 2)])
        events = as_events(OLD[:2]) + (("mark", "m"), ("careful", "on")) + as_events(OLD[2:])
        self.same([live.do_all(*events), live.counts()], [9, (3, 3)])
        self.same(told(live), told(behind(*events)))
        self.same(live.made_since("m"), (2, 3))
        self.same([live.do_all(("deed", ("stop",)), keep=True), live.counts()], [1, (4, 4)])

    def test_the_first_one_fails(self):
        for keep in (False, True):
            live = behind(("mark", "m"))
            before = told(live)
            self.broken(live, 0, InvalidEvent(("mark", "m"), "twice"), ("mark", "m"), ("mark", "n"), keep=keep)
            self.same([told(live), live.counts()], [before, (2, 2)])

    def test_a_later_one_fails(self):
        events = as_events(OLD[:4]) + (("mark", "m"), ("deed", ("keep", "a"))) + as_events(OLD[4:])
        cause = InvalidEvent(("deed", ("keep", "a")), "page")
        for keep in ODD + (False, 2, "True", [True]):
            live = behind(("mark", "n"))
            before = told(live)
            if keep is not True:
                self.broken(live, 5, cause, *events, keep=keep)
                self.same([told(live), live.counts()], [before, (2, 2)])
                self.refused(NotUsable("name", -1), live.made_since, "m")
        live = behind(("mark", "n"))
        before = told(live)
        self.broken(live, 5, cause, *events)
        self.same(told(live), before)
        self.broken(live, 5, cause, *events, keep=True)
        self.same([told(live), live.counts()], [told(behind(("mark", "n"), *events[:5])), (3, 3)])
        self.same([live.made_since("m"), live.undo(), live.undo()], [(), ("mark", "m"), ("deed", ("plain", "a"))])

    def test_what_is_no_event(self):
        for thing in NO_EVENTS:
            live = Live()
            self.broken(live, 1, InvalidEvent(thing, "shape"), ("deed", ("keep", "a")), thing, None)
            self.same(live.story(), (("live", (), "off"),))

    def test_it_is_full(self):
        live = behind(*FORTY[:38])
        self.broken(live, 2, InvalidEvent(SEAL, "full"), ("mark", "m"), ("mark", "n"), SEAL, None)
        self.same(len(live.story()), 39)
        self.broken(live, 2, InvalidEvent(SEAL, "full"), ("mark", "m"), ("mark", "n"), SEAL, None, keep=True)
        self.same(len(live.story()), 41)

    def test_a_harm(self):
        live = Live(careful="on")
        self.broken(live, 7, InvalidEvent(("deed", ("put", "a")), "harm"), *as_events(HARMED))
        self.same(live.history_now, ())
        self.same(live.do_all(("careful", "off"), *as_events(HARMED), ("careful", "on")), 10)
        self.same([live.harms_now, live.careful_now], [((7, "old", "a"),), "on"])


class Tried(Case):
    def test_the_store_behind(self):
        live = behind(*as_events(OLD[:2]))
        before = told(live)
        self.same(live.tried(), live.store_now)
        self.same(live.tried(*as_events(OLD[2:]), ("mark", "m"), ("careful", "on")), store_after((), OLD))
        self.same([told(live), live.counts()], [before, (2, 2)])

    def test_the_first_that_is_not_possible(self):
        live = behind(*as_events(OLD[:2]), ("mark", "m"))
        before = told(live)
        self.refused(InvalidEvent(("mark", "m"), "twice"), live.tried, ("mark", "n"), ("mark", "m"), None)
        self.refused(InvalidEvent(SEAL, "seal"), live.tried, SEAL, None)
        self.refused(InvalidEvent(("mark", "x"), "twice"), live.tried, ("mark", "x"), ("mark", "x"))
        self.refused(InvalidEvent(("deed", ("put", "a")), "harm"), live.tried, ("careful", "on"), *as_events(OLD[2:]),
                     ("deed", ("put", "a")))
        self.same([told(live), live.counts(), live.barred(("mark", "x"))], [before, (3, 3), None])

    def test_barred_leaves_nothing_behind(self):
        live = behind(*as_events(OLD[:2]), ("mark", "m"))
        before = told(live)
        for event in SOME + NO_EVENTS:
            live.barred(event)
        self.same([told(live), live.counts()], [before, (3, 3)])

    def test_full(self):
        live = behind(*FORTY[:39])
        live.tried(("mark", "m"))
        self.refused(InvalidEvent(("mark", "n"), "full"), live.tried, ("mark", "m"), ("mark", "n"))


class Trials(Case):
    def test_it_ends_by_itself(self):
        live = behind(*as_events(OLD[:2]), ("mark", "m"))
        before = told(live)
        with live.trial() as same:
            self.assertIs(same, live)
            live.do_deed(("free", "a"))
            live.set_careful("on")
            live.mark("n")
            live.undo()
            live.do_all(*as_events(OLD[3:]))
            live += ("mark", "n")
            live.careful_now = "off"
            self.same([live.history_now, live.careful_now, live.made_since("m")], [OLD, "off", (2, 3)])
        self.same([told(live), live.counts()], [before, (10, 10)])
        self.refused(NotUsable("name", -1), live.made_since, "n")

    def test_behind_an_error(self):
        for error in (InvalidEvent(("mark", "m"), "twice"), KeyError("x"), NothingToUndo(0)):
            live = behind(("mark", "m"))
            before = told(live)
            with self.assertRaises(type(error)) as caught:
                with live.trial():
                    live.do_deed(("keep", "a"))
                    raise error
            self.assertIs(caught.exception, error)
            self.same([told(live), live.counts()], [before, (2, 2)])
        live = behind(("mark", "m"))
        with self.assertRaises(InvalidEvent):
            with live.trial():
                live.mark("n")
                live.mark("m")
        self.same([live.story()[1:], live.counts()], [(("mark", "m"),), (3, 3)])

    def test_what_is_taken_back_within(self):
        live = behind(*as_events(OLD))
        before = told(live)
        with live.trial():
            for _ in OLD:
                live.undo()
            self.refused(NothingToUndo(0), live.undo)
            live.do_deed(("keep", "zz"))
        self.same([told(live), live.counts()], [before, (16, 16)])
        self.same(live.undo(), ("deed", ("stop",)))

    def test_one_in_another(self):
        live = behind(("deed", ("keep", "a")))
        before = told(live)
        with live.trial():
            live.do_deed(("seal",))
            within = told(live)
            with live.trial() as same:
                self.assertIs(same, live)
                live.undo()
                live.undo()
                live.mark("m")
            self.same(told(live), within)
            live.do_deed(("free", "a"))
            with self.assertRaises(ZeroDivisionError):
                with live.trial():
                    live.do_deed(("stop",))
                    raise ZeroDivisionError()
            self.same(live.undo(), ("deed", ("free", "a")))
            self.same(told(live), within)
        self.same([told(live), live.counts()], [before, (8, 8)])

    def test_it_begins_with_the_call(self):
        live = behind(("deed", ("keep", "a")))
        before = told(live)
        trial = live.trial()
        live.do_deed(("seal",))
        with trial as same:
            self.assertIs(same, live)
            self.same(live.history_now, OLD[:2])
        self.same([told(live), live.counts()], [before, (2, 2)])

    def test_without_with_nothing_is_undone(self):
        live = Live()
        live.trial()
        live.do_deed(("keep", "a"))
        self.same([live.history_now, live.counts()], [OLD[:1], (1, 1)])

    def test_two_live_stores(self):
        one, two = Live(), Live(ALL)
        with one.trial(), two.trial():
            one.do_deed(("keep", "a"))
            two.do_deed(("plain", "b"))
        self.same([told(one), told(two)], [told(Live()), told(Live(ALL))])

    def test_a_full_one(self):
        live = behind(*FORTY)
        with live.trial():
            live.undo()
            live.mark("m")
            self.refused(InvalidEvent(("mark", "n"), "full"), live.mark, "n")
        self.same(live.story()[1:], FORTY)


class Counts(Case):
    def counted(self, live, many, call, *args, **named):
        """The call counts so often in both, whether it raises or not."""
        started, finished = live.counts()
        try:
            call(*args, **named)
        except ValueError:
            pass
        self.same(live.counts(), (started + many, finished + many))

    def test_operations(self):
        for live in (behind(*as_events(OLD[:2])), behind(*FORTY), Live(), Live(careful="on")):
            for event in SOME[:3] + SOME[9:13] + (None, ("mark", 1)):
                self.counted(live, 1, live.happen, event)
                self.counted(live, 1, add_to, live, event)
            for thing in (("keep", "a"), ("end",), None, "on", "m", ()):
                self.counted(live, 1, live.do_deed, thing)
                self.counted(live, 1, live.set_careful, thing)
                self.counted(live, 1, live.mark, thing)
                self.counted(live, 1, setattr, live, "careful_now", thing)
            self.counted(live, 1, live.do_all)
            self.counted(live, 1, live.do_all, *SOME)
            self.counted(live, 1, live.do_all, *SOME, keep=True)
            self.counted(live, 1, live.do_all, SOME[0], SOME[4], ("mark", "zz"))
            for _ in range(3):
                self.counted(live, 1, live.undo)

    def test_what_counts_nothing(self):
        for live in (behind(*as_events(OLD[:2])), behind(*FORTY), Live()):
            for event in SOME + (None,):
                self.counted(live, 0, live.barred, event)
                self.counted(live, 0, live.tried, event, event)
            self.counted(live, 0, live.trial)
            self.counted(live, 0, live.trial().__enter__)
            self.counted(live, 0, told, live)
            self.counted(live, 0, live.set_on, None)
            self.counted(live, 0, live.made_since, "m")
            self.counted(live, 0, live.__getitem__, "zz")
            self.counted(live, 0, lambda: live == Live())
            self.counted(live, 0, lambda: replayed(live.story()))

    def test_a_pair(self):
        self.same(Live().counts(), (0, 0))
        self.same(behind(SOME[0]).counts(), (1, 1))


if __name__ == "__main__":
    unittest.main()
