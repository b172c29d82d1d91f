"""[42], [46] and [47]: stretches, and what a stop at each moment leaves and brings."""

import inspect
import unittest

from pagelives.deedreadings import read_deeds
from pagelives.errors import NotUsable
from pagelives.historychecker import is_history
from pagelives.kinds import GUARDS
from pagelives.needless import left_without, needless_records
from pagelives.safepoints import farthest_point, safe_points
from pagelives.stops import harms_by_stop, left_by_stop
from pagelives.stretches import harms_along, is_stretch, stops_along
from pagelives.strikechecker import lets_strikes
from pagelives.strikes import greatest_strikes, least_strikes, strikes_in, strikes_paper
from tests.draws import Draws, short_stretches
from tests.model import models_along, stop_without
from tests.samples import ALL, ODD, OLD, Case

SIX = ("a", "b", "c", "d", "zz", "abcdefgh")
STARTS = ((), OLD[:2], OLD[:5], OLD[:6], OLD[:2] + (("point", 1), ("write", "a")))


class Is(Case):
    def test_examples(self):
        told = [is_stretch((), OLD), is_stretch((), OLD[:6]), stops_along((), OLD[:2]), harms_along((), OLD[:6])[5:]]
        self.same(told, [False, True, ((), (("a", (0, 1)),), (("a", (1,)),)), ((), (("old", "a"),))])

    def test_histories(self):
        for n in range(7):
            self.same(is_stretch((), OLD[:n]), True)
        draws = Draws(46)
        for _ in range(60):
            rule = draws.some_of(ALL, 4)
            history = draws.history(rule, 8, ("a", "b"))
            self.same(is_stretch(rule, history), "stop" not in [deed[0] for deed in history])
            self.same(is_stretch(rule, draws.stretch(rule, 12, ("a", "b"), STARTS)), True)

    def test_stop_put_and_end(self):
        self.same([is_stretch((), ()), is_stretch((), (("stop",),))], [True, False])
        for text in ("stop", "stop\nend", "keep a\nseal\nstop\nput a\nend", "stop\nend\nkeep a", "stop\npoint 1"):
            self.same(is_stretch((), read_deeds(text)), False)
        for text in ("put a", "end", "keep a\nseal\nput a", "keep a\nend"):
            self.same([is_stretch((), read_deeds(text)), is_history((), read_deeds(text))], [False, False])

    def test_what_is_no_history(self):
        for thing in ODD + (list(OLD[:6]), (("free", "a"),), (("keep", "a"), ("keep", "a")), [["keep", "a"]]):
            self.same(is_stretch((), thing), False)
        self.same([is_stretch(("settled",), OLD[:6]), is_stretch(("dead",), OLD[:6])], [False, True])
        self.same(is_stretch(("calm",), OLD[:3] + (("plain", "a"),)), False)

    def test_wrong_rules(self):
        for thing in ODD + (GUARDS, ["calm"], "calm"):
            self.refused(NotUsable("rule", -1), is_stretch, thing, None)
            self.refused(NotUsable("rule", -1), is_stretch, thing, OLD[:6])


class Along(Case):
    def check(self, rule, history):
        """Each moment is told as the functions for one history tell its beginning, and as the model does."""
        stops, harms = stops_along(rule, history), harms_along(rule, history)
        self.assertEqual([len(stops), len(harms)], [len(history) + 1] * 2)
        self.same(stops, tuple([left_by_stop(rule, history[:n]) for n in range(len(history) + 1)]))
        self.same(harms, tuple([harms_by_stop(rule, history[:n]) for n in range(len(history) + 1)]))
        models = models_along(rule, history)
        self.same([stops, harms], [part for part in map(tuple, zip(*[stop_without(model) for model in models]))])

    def test_the_empty_history(self):
        for rule in ((), ALL, ("ahead",)):
            self.same([stops_along(rule, ()), harms_along(rule, ())], [((),), ((),)])

    def test_moments(self):
        history = OLD[:6]
        self.same(stops_along((), history), ((), (("a", (0, 1)),), (("a", (1,)),), (("a", (1,)),), (("a", (1,)),),
                                             (("a", (1,)),), (("a", (1,)),)))
        self.same(harms_along((), history), ((), (), (), (), (), (), (("old", "a"),)))
        # A page is there from the deed that names it on.
        self.same(stops_along((), (("strike", "b"), ("plain", "a"))), ((), (("b", (0,)),), (("a", (0,)), ("b", (0,)))))

    def test_several_harms(self):
        history = read_deeds("keep b\nkeep a\nseal\npoint 2\nwrite b\nkeep c\nfree c\nplain c\nwrite c\nseal")
        self.same(harms_along((), history)[4:], (
            (("missed", "a"), ("missed", "b")), (("missed", "a"), ("missed", "b"), ("open", "b")),
            (("missed", "a"), ("missed", "b"), ("open", "b")), (("missed", "a"), ("missed", "b"), ("open", "b")),
            (("missed", "a"), ("missed", "b"), ("open", "b")), (("missed", "a"), ("missed", "b"), ("open", "b")),
            (("missed", "a"), ("old", "c"))))
        self.check((), history)

    def test_short_stretches(self):
        for rule in ((), ("ahead",), ("calm", "dead")):
            for history in short_stretches(rule, 4, ("a",)):
                self.check(rule, history)

    def test_drawn_stretches(self):
        draws = Draws(461)
        for n in range(60):
            rule = draws.some_of(ALL, 5)
            self.check(rule, draws.stretch(rule, 16, SIX[:1 + n % 3], STARTS))

    def test_sixty_deeds_of_six_pages(self):
        draws = Draws(60)
        for rule in ((), ALL):
            history = draws.stretch(rule, 60, SIX)
            self.assertEqual(len(history), 60)
            self.check(rule, history)


class Wrong(Case):
    def test_rules_and_stretches(self):
        # [42] states this for all that goes along a stretch; what is no stretch is refused, a history with a stop too.
        asked = [stops_along, harms_along, strikes_in, least_strikes, greatest_strikes, strikes_paper, needless_records,
                 safe_points, farthest_point]
        for ask in asked:
            for thing in ODD + (GUARDS, ["calm"]):
                self.refused(NotUsable("rule", -1), ask, thing, None)
            for thing in ODD + (list(OLD[:6]), OLD, OLD + (("put", "a"), ("end",)), (("stop",), ("end",)),
                                (("free", "a"),)):
                self.refused(NotUsable("history", -1), ask, (), thing)
            self.refused(NotUsable("history", -1), ask, ("settled",), OLD[:6])
            self.assertEqual(str(inspect.signature(ask)), "(rule, history)")
        self.assertEqual(str(inspect.signature(is_stretch)), "(rule, thing)")

    def test_before_a_further_parameter(self):
        for ask, last in ((lets_strikes, None), (left_without, None)):
            for thing in ODD + (GUARDS, ["calm"]):
                self.refused(NotUsable("rule", -1), ask, thing, None, last)
            for thing in ODD + (list(OLD[:6]), OLD):
                self.refused(NotUsable("history", -1), ask, (), thing, last)
            self.refused(NotUsable("history", -1), ask, ("settled",), OLD[:6], last)


if __name__ == "__main__":
    unittest.main()
