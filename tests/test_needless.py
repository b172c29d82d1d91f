"""[47], [51] and [52]: records that can be left out."""

import inspect
import unittest

from pagelives.deedreadings import read_deeds
from pagelives.errors import NotUsable
from pagelives.needless import left_without, needless_records
from pagelives.stores import store_after
from pagelives.stretches import stops_along
from tests.draws import Draws, short_stretches
from tests.model import models_along, stop_without
from tests.samples import ALL, ODD, OLD, Case

TWICE = OLD[:3] + (("strike", "a"), ("strike", "a")) + OLD[3:6]
ONCE = OLD[:3] + (("strike", "a"),) + OLD[3:6]
STARTS = ((), OLD[:2], OLD[:5], ONCE, OLD[:2] + (("point", 1), ("write", "a"), ("seal",)))


class Left(Case):
    def check(self, rule, history):
        """Each record left out is told as the model tells it; those without which nothing else is left are needless."""
        models = models_along(rule, history)
        records = models[-1].records
        stops = stops_along(rule, history)
        needless = []
        for k, record in enumerate(records):
            left = left_without(rule, history, k)
            self.same(left, tuple([stop_without(model, (k,))[0] for model in models]))
            if repr(left) == repr(stops):
                needless.append(k)
            # [52]
            if record[0] in ("free", "plain") or k >= models[-1].sealed:
                self.assertIn(k, needless)
        self.same(needless_records(rule, history), tuple(needless))
        return len(records) - len(needless)

    def test_examples(self):
        told = [left_without((), ONCE, 2)[7], stops_along((), ONCE)[7], needless_records((), ONCE),
                needless_records((), TWICE)]
        self.same(told, [(("a", (1,)),), (("a", (0, 1, 3)),), (1, 3), (1, 2, 3, 4)])

    def test_each_moment(self):
        # Before its record stands in the log, all is as it is in the stretch.
        history = read_deeds("keep a\nseal\nwrite a\nseal\nflush a\npoint 1")
        self.same(stops_along((), history), ((), (("a", (0, 1)),), (("a", (1,)),), (("a", (1,)),), (("a", (2,)),),
                                             (("a", (2,)),), (("a", (2,)),)))
        self.same(left_without((), history, 0), ((), (("a", (0, 1)),), (("a", (0, 1)),), (("a", (0, 1, 2)),),
                                                 (("a", (2,)),), (("a", (2,)),), (("a", (2,)),)))
        self.same(left_without((), history, 1), ((), (("a", (0, 1)),), (("a", (1,)),), (("a", (1,)),), (("a", (1,)),),
                                                 (("a", (1,)),), (("a", (2,)),)))
        self.same(needless_records((), history), ())
        # Where the point passes the first picture at once, the second one alone is put.
        self.same(needless_records((), read_deeds("keep a\nwrite a\nseal")), (0,))

    def test_the_pages_stay(self):
        self.same([left_without((), (("strike", "b"),), 0), needless_records((), (("strike", "b"),))],
                  [((), (("b", (0,)),)), (0,)])
        self.same(left_without((), OLD[:1], 0), stops_along((), OLD[:1]))

    def test_points_that_pass_the_record(self):
        history = read_deeds("strike b\nkeep a\nseal\nflush a\npoint 1\nkeep c\nseal\npoint 2")
        # Without record 0 the point is 0 and 1: it passes the picture of a only where it did.
        self.same(left_without((), history, 0), stops_along((), history))
        self.same(left_without((), history, 1)[3:5], ((("a", (0, 1)), ("b", (0,))), (("a", (1,)), ("b", (0,)))))
        self.same(needless_records((), history), (0,))
        self.check((), history)
        # The picture of c stands at the point, and is put; without the one of a it stands there, too.
        self.same(left_without((), history, 1)[8], (("a", (1,)), ("b", (0,)), ("c", (2,))))
        # The picture of a stands at the point, not before it, with the strike and without.
        history = read_deeds("strike b\nkeep a\nseal\npoint 1")
        self.same(left_without((), history, 0)[4], (("a", (1,)), ("b", (0,))))
        self.same(left_without((), history + (("point", 2),), 0)[5], (("a", (0, 1)), ("b", (0,))))

    def test_records_that_are_never_sealed(self):
        history = read_deeds("keep a\nseal\nwrite a\nstrike a\nkeep b")
        self.same(needless_records((), history), (1, 2, 3))
        self.same(needless_records((), (("keep", "a"), ("write", "a"))), (0, 1))
        self.same(left_without((), (("keep", "a"), ("write", "a")), 0), ((), (("a", (0, 1)),), (("a", (0, 1, 2)),)))

    def test_strikes(self):
        # Without the strike an elder picture is put; without the picture behind it this one is.
        history = read_deeds("keep a\nstrike a\nwrite a\nseal\nstrike a\nseal")
        self.same(needless_records((), history), (0, 1))
        self.check((), history)
        # Before the picture a strike does nothing, nor does one of another page.
        self.same(needless_records((), read_deeds("strike a\nkeep a\nstrike b\nseal")), (0, 2))

    def test_what_harms_hang_on(self):
        # Free and plain are needless, though without plain no stop brings old.
        self.same(needless_records((), OLD[:6]), (1, 2))

    def test_without_records(self):
        self.same([needless_records((), ()), needless_records(ALL, ())], [(), ()])

    def test_short_stretches(self):
        for rule in ((), ("ahead",), ("calm", "dead")):
            for history in short_stretches(rule, 4, ("a",)):
                self.check(rule, history)

    def test_drawn_stretches(self):
        draws = Draws(51)
        needed = 0
        for n in range(60):
            rule = draws.some_of(ALL, 6)
            needed = needed + self.check(rule, draws.stretch(rule, 14, ("a", "b", "c")[:1 + n % 3], STARTS))
        self.assertGreater(needed, 40)

    def test_sixty_deeds(self):
        draws = Draws(60)
        history = draws.stretch((), 60, ("a", "b", "c", "d", "e", "f"))
        log = store_after((), history)[0]
        needless = needless_records((), history)
        self.assertLess(20, len(log))
        for k in (0, len(log) // 2, len(log) - 1):
            self.same(left_without((), history, k) == stops_along((), history), k in needless)


class Wrong(Case):
    def test_indexes(self):
        for history, many in ((ONCE, 4), (OLD[:1], 1), ((), 0)):
            for k in range(many):
                self.assertEqual(len(left_without((), history, k)), len(history) + 1)
            for thing in (many, many + 1, -1, -many, True, False, None, "0", (0,), [0], 10 ** 60) + ODD:
                if thing not in range(many) or isinstance(thing, bool):
                    self.refused(NotUsable("k", -1), left_without, (), history, thing)

    def test_names(self):
        self.assertEqual(str(inspect.signature(left_without)), "(rule, history, k)")
        self.same(left_without(k=0, history=OLD[:1], rule=()), ((), (("a", (0, 1)),)))


if __name__ == "__main__":
    unittest.main()
