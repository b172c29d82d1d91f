"""[53]: safe points."""

import unittest

from pagelives.deedbars import barred_by
from pagelives.deedreadings import read_deeds
from pagelives.safepoints import farthest_point, safe_points
from pagelives.stops import harms_by_stop
from pagelives.stores import store_after
from tests.draws import Draws, short_stretches
from tests.model import Model, stop_without
from tests.samples import ALL, OLD, Case

STARTS = ((), OLD[:2], OLD[:5], OLD[:6], OLD[:2] + (("point", 1), ("write", "a"), ("seal",)))


class Points(Case):
    def check(self, rule, history):
        """The points are those with which a stop, told by the model, brings no harm."""
        _, sealed, point = store_after(rule, history)[:3]
        wanted = []
        for p in range(point, sealed + 1):
            model = Model(rule)
            for deed in history:
                model.do(deed)
            model.point = p
            if not stop_without(model)[1]:
                wanted.append(p)
        told = safe_points(rule, history)
        self.same(told, tuple(wanted))
        self.same(farthest_point(rule, history), wanted[-1] if wanted else None)
        # The consequences that stand behind it.
        self.same(point in told, harms_by_stop(rule, history) == ())
        if point in told:
            self.same(told, tuple(range(point, told[-1] + 1)))
        for p in range(point + 1, sealed + 1):
            if not barred_by(rule, history, ("point", p)):
                self.same(p in told, harms_by_stop(rule, history + (("point", p),)) == ())
        return told

    def test_examples(self):
        self.same([safe_points((), OLD[:2]), safe_points((), (("keep", "a"), ("flush", "a"), ("seal",))),
                   farthest_point((), OLD[:6])], [(0,), (0, 1), 3])

    def test_nothing_is_sealed(self):
        for history in ((), OLD[:1], (("strike", "b"), ("plain", "a"))):
            self.same([safe_points((), history), farthest_point((), history)], [(0,), 0])

    def test_the_present_point(self):
        history = read_deeds("keep a\nflush a\nseal\nkeep b\nseal\npoint 1")
        self.same([safe_points((), history), farthest_point((), history)], [(1,), 1])
        history = history + (("flush", "b"), ("point", 2))
        self.same([safe_points((), history), farthest_point((), history)], [(2,), 2])
        self.same([safe_points((), history[:-1]), farthest_point((), history[:-1])], [(1, 2), 2])

    def test_behind_one_that_is_not_safe(self):
        self.same(safe_points((), OLD[:6]), (1, 2, 3))
        text = "keep a\nfree a\nkeep b\nseal\nplain a\nwrite a\nseal"
        self.same([safe_points((), read_deeds(text)), farthest_point((), read_deeds(text))], [(1, 2), 2])

    def test_none(self):
        for text in ("keep a\nseal\npoint 1", "keep a\nstrike a\nseal", "keep a\nfree a\nplain a\nwrite a\nkeep b\n"
                     "strike b\nseal"):
            self.same([safe_points((), read_deeds(text)), farthest_point((), read_deeds(text))], [(), None])

    def test_points_that_guards_bar(self):
        rule = ("clean", "dead", "level", "whole")
        history = read_deeds("keep a\nflush a\nseal\nstrike b")
        self.same([barred_by(rule, history, ("point", 1)), safe_points(rule, history)], [("level",), (0, 1)])
        history = read_deeds("keep a\nseal\nfree a\nseal\nkeep a")
        self.same([barred_by(rule, history, ("point", 1)), safe_points(rule, history)], [("level",), (0, 1, 2)])

    def test_what_is_not_sealed_vanishes(self):
        # The page is kept by the sealed records, and its content may be missed.
        history = read_deeds("keep a\nseal\nfree a")
        self.same([safe_points((), history), safe_points((), history + (("seal",),))], [(0,), (0, 1, 2)])

    def test_short_stretches(self):
        for rule in ((), ("ahead",)):
            for history in short_stretches(rule, 4, ("a",)):
                self.check(rule, history)

    def test_drawn_stretches(self):
        draws = Draws(53)
        found = set()
        for n in range(150):
            rule = draws.some_of(ALL, 5)
            found.add(len(self.check(rule, draws.stretch(rule, 16, ("a", "b", "c")[:1 + n % 3], STARTS))))
        self.assertLessEqual({0, 1, 2, 3}, found)


if __name__ == "__main__":
    unittest.main()
