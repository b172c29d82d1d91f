"""[28]: what a stop leaves, and the harms of deeds."""

import inspect
import unittest

from pagelives.deedreadings import read_deeds
from pagelives.errors import NotUsable
from pagelives.historychecker import is_history
from pagelives.kinds import GUARDS
from pagelives.stops import going_deeds, harms_by_stop, harms_now, left_by_stop
from pagelives.stores import store_after
from tests.draws import Draws
from tests.model import Model
from tests.samples import ALL, ODD, OLD, Case

STARTS = ((), OLD[:1], OLD[:2], OLD[:5], OLD, OLD[:2] + (("point", 1), ("write", "a")))


def deeds(text):
    """The deeds of a text with commas between."""
    return read_deeds(text.replace(", ", "\n"))


class Examples(Case):
    def test_examples(self):
        self.same([going_deeds((), OLD[:6]), left_by_stop((), OLD[:6]), harms_by_stop((), OLD[:6])],
                  [(("stop",), ("put", "a"), ("end",)), (("a", (1,)),), (("old", "a"),)])
        told = [harms_now((), OLD), harms_now((), OLD + (("put", "a"),)),
                harms_by_stop((), (("keep", "a"), ("seal",), ("point", 1)))]
        self.same(told, [(), (("old", "a"),), (("missed", "a"),)])


class Going(Case):
    def going(self, text, wanted):
        """These deeds come if the store stops behind the history; they can be done."""
        history = deeds(text)
        told = going_deeds((), history)
        self.same(told, deeds("stop, " + wanted + "end"))
        self.assertTrue(is_history((), history + told))

    def test_empty_history(self):
        self.same(going_deeds((), ()), (("stop",), ("end",)))

    def test_only_sealed_records(self):
        self.going("keep a", "")
        self.going("keep a, seal", "put a, ")
        self.going("keep a, seal, keep b", "put a, ")
        self.going("keep a, seal, strike a", "put a, ")
        self.going("keep a, seal, strike a, seal", "")
        self.going("keep a, seal, free a, plain a, seal", "put a, ")

    def test_from_the_point_on(self):
        self.going("keep a, keep b, seal, point 1", "put b, ")
        self.going("keep a, keep b, seal, point 2", "")
        self.going("keep a, keep b, write a, seal, point 2", "put a, ")

    def test_by_their_pages(self):
        self.going("keep zz, keep b, keep abcdefgh, plain c, seal", "put abcdefgh, put b, put zz, ")

    def test_a_store_that_goes_already(self):
        self.going("keep a, keep b, seal, stop", "put a, put b, ")
        self.going("keep a, keep b, seal, stop, put b", "put a, put b, ")
        self.going("keep a, keep b, seal, stop, put a, put b", "put a, put b, ")
        self.going("keep a, keep b, seal, stop, put b, point 1", "put b, ")
        self.going("keep a, keep b, seal, stop, point 2", "")
        self.going("keep a, keep b, seal, stop, put a, put b, end", "put a, put b, ")


class Left(Case):
    def left(self, text, *wanted):
        """A stop behind the history leaves these pairs, as does going through the log deed by deed."""
        history = deeds(text)
        told = left_by_stop((), history)
        self.same(told, wanted)
        behind = store_after((), history + going_deeds((), history))
        self.same(told, tuple([(row[0], row[3]) for row in behind[4]]))

    def test_empty_history(self):
        self.same(left_by_stop((), ()), ())
        self.left("stop")

    def test_puts(self):
        self.left("keep a", ("a", (0, 1)))
        self.left("keep a, seal, write a", ("a", (1,)))
        self.left("keep a, write a, seal", ("a", (2,)))
        self.left("plain a, write a, flush a", ("a", (2,)))
        self.left("keep b, strike zz, plain a, write a, seal, write b", ("a", (0, 3)), ("b", (1,)), ("zz", (0,)))

    def test_amid_going(self):
        self.left("keep a, keep b, seal, write a, stop", ("a", (1,)), ("b", (2,)))
        self.left("keep a, keep b, seal, write a, stop, put b", ("a", (1,)), ("b", (2,)))
        self.left("keep a, keep b, seal, write a, stop, put b, point 1", ("a", (0, 1, 3)), ("b", (2,)))

    def test_ahead(self):
        self.same([left_by_stop(rule, deeds("keep a")) for rule in ((), ("ahead",))], [(("a", (0, 1)),), (("a", (0,)),)])

    def test_no_stop_and_no_point_between(self):
        for n in range(len(OLD)):
            self.same(left_by_stop((), OLD[:n] + (("stop",),)), left_by_stop((), OLD[:n]))


class Harms(Case):
    def harms(self, text, *wanted):
        """A stop behind the history brings these harms; the deeds that come bring them one by one."""
        history = deeds(text)
        wanted = tuple([tuple(pair.split(" ")) for pair in wanted])
        self.same(harms_by_stop((), history), wanted)
        found = set()
        for deed in going_deeds((), history):
            history = history + (deed,)
            brought = harms_now((), history)
            self.assertEqual(brought != () and deed[0], {"old": "put"}.get(brought[0][0], "end") if brought else False)
            found = found | set(brought)
        self.same(tuple(sorted(found)), wanted)

    def test_no_harm(self):
        self.harms("stop")
        self.harms("keep a")
        self.harms("keep a, seal, write a")
        self.harms("keep a, free a, seal")
        self.harms("plain a, write a, seal")
        self.harms("plain a, write a, flush a, write a, seal")
        self.harms("keep a, flush a, seal, point 1")

    def test_old(self):
        self.harms("keep a, free a, plain a, write a, seal", "old a")
        self.harms("keep a, free a, plain a, write a, flush a, seal", "old a")
        self.harms("keep a, free a, plain a, write a, seal, write a, flush a", "old a")
        # An elder picture on a plain page without data of this life is no harm.
        self.harms("keep a, free a, plain a, seal")
        self.harms("keep a, free a, plain a, write a, free a, plain a, seal")
        self.harms("keep a, seal, free a, plain a, write a")
        self.harms("keep a, free a, strike a, plain a, write a, seal")

    def test_missed(self):
        self.harms("keep a, seal, point 1", "missed a")
        self.harms("keep a, flush a, write a, seal, point 2", "missed a")
        self.harms("keep a, strike a, seal", "missed a")
        self.harms("keep a, write a, seal, point 1")
        self.harms("keep a, flush a, write a, flush a, seal, point 2")

    def test_open(self):
        self.harms("keep a, flush a, seal, point 1, write a", "open a")
        self.harms("keep a, flush a, seal, point 1, free a, plain a, write a", "open a")
        self.harms("keep a, flush a, seal, point 1, free a, plain a")
        self.harms("plain a, seal, free a, keep a", "open a")
        self.harms("plain a, seal, write a, free a, keep a, flush a", "open a")
        self.harms("plain a, seal, free a, plain a, write a", "open a")
        self.harms("plain a, write a, free a, plain a, seal")
        self.harms("plain a, seal, free a, plain a")

    def test_missed_and_open(self):
        self.harms("keep a, seal, point 1, write a", "missed a", "open a")

    def test_several_pages(self):
        text = "keep b, keep c, free c, plain c, write c, seal, point 1, plain a, keep zz, keep d, seal"
        self.harms(text, "missed b", "old c")
        self.harms("keep a, keep b, seal, point 2, write b", "missed a", "missed b", "open b")
        self.harms("keep b, free b, plain b, write b, keep a, free a, plain a, write a, seal", "old a", "old b")

    def test_behind_a_point_amid_going(self):
        text = "keep a, seal, stop, point 1"
        self.harms(text, "missed a")
        self.same(harms_now((), deeds(text + ", end")), (("missed", "a"),))
        self.same(harms_now((), deeds("keep a, seal, stop, put a, point 1, end")), ())

    def test_what_a_stop_brings_is_told_before_and_amid_going(self):
        history = deeds("keep a, free a, plain a, write a, seal, stop, put a")
        # The put brings the harm; now that the picture lies there, a further one brings none.
        self.same([harms_by_stop((), history[:n]) for n in (4, 5, 6, 7)], [(), (("old", "a"),), (("old", "a"),), ()])

    def test_harms_now_is_of_the_last_deed_alone(self):
        history = deeds("keep a, keep b, seal, point 2, stop, end")
        self.same([harms_now((), history[:n]) for n in range(6)], [()] * 6)
        self.same(harms_now((), history), (("missed", "a"), ("missed", "b")))
        self.same(harms_now((), history + (("stop",),)), ())
        self.same(harms_now((), ()), ())

    def test_the_store_goes_on_behind_a_harm(self):
        history = OLD + deeds("put a, end, write a, flush a, stop, put a, end")
        self.same([n for n in range(len(history) + 1) if harms_now((), history[:n])], [8, 13])


class Drawn(Case):
    def test_drawn_histories(self):
        draws = Draws(28)
        found = set()
        for n in range(240):
            rule = draws.some_of(ALL, 5)
            history = draws.history(rule, 10, ("a", "b")[:1 + n % 2], STARTS)
            model = Model(rule)
            for k, deed in enumerate(history):
                harms = model.do(deed)
                found = found | {harm for harm, _ in harms}
                self.same(harms_now(rule, history[:k + 1]), tuple(sorted(harms)))
        self.assertEqual(found, {"old", "missed", "open"})


class Wrong(Case):
    def test_rules_and_histories(self):
        for ask in (left_by_stop, harms_by_stop, harms_now, going_deeds):
            for thing in ODD + (GUARDS, ["calm"]):
                self.refused(NotUsable("rule", -1), ask, thing, None)
            for thing in ODD + (list(OLD), OLD + (("seal",),), (("free", "a"),)):
                self.refused(NotUsable("history", -1), ask, (), thing)
            self.refused(NotUsable("history", -1), ask, ("settled",), OLD)

    def test_names(self):
        for ask in (left_by_stop, harms_by_stop, harms_now, going_deeds):
            self.assertEqual(str(inspect.signature(ask)), "(rule, history)")
        self.same(harms_now(history=OLD, rule=()), ())


if __name__ == "__main__":
    unittest.main()
