"""[29]: Store and Careful."""

import inspect
import unittest

from pagelives.deedbars import deeds_now
from pagelives.deedreadings import read_deeds
from pagelives.errors import InvalidDeed, NotUsable
from pagelives.kinds import GUARDS
from pagelives.stops import harms_now
from pagelives.storeclasses import Careful, Store
from pagelives.storepictures import picture
from pagelives.stores import store_after
from tests.samples import ALL, ODD, OLD, Case

HARM = OLD + (("put", "a"),)
MISSED = (("keep", "a"), ("seal",), ("point", 1), ("stop",), ("end",))
TWO = (("keep", "zz"), ("plain", "abcdefgh"), ("write", "abcdefgh"), ("seal",), ("flush", "zz"))
SOME = [Store(), Store((), OLD[:2]), Store((), OLD), Store((), HARM), Store(("ahead",)), Store(("ahead",), OLD[:2]),
        Store(ALL), Store((), TWO), Careful(), Careful((), OLD[:2]), Careful(("ahead",), OLD)]


class Stores(Case):
    def test_example(self):
        store = Store((), OLD)
        told = [len(store), "a" in store, store["a"], store <= store + ("put", "a"), bool(store),
                bool(store + ("put", "a"))]
        self.same(told, [7, True, ("a", None, False, (0, 1, 3)), True, True, False])
        self.same(str(Store((), OLD[:5])), "runs 0 1 3\na        plain   3 loose 0,1,3")

    def test_making(self):
        self.same([Store().rule_now, Store().history_now], [(), ()])
        store = Store(history=OLD, rule=("dead",))
        self.same([store.rule_now, store.history_now], [("dead",), OLD])
        self.assertEqual(str(inspect.signature(Store)), "(rule=(), history=())")

    def test_wrong_making(self):
        for kind in (Store, Careful):
            for thing in ODD + (GUARDS, ["calm"], Store()):
                self.refused(NotUsable("rule", -1), kind, thing, None)
            for thing in ODD + (list(OLD), OLD + (("seal",),), Store()):
                self.refused(NotUsable("history", -1), kind, (), thing)
            self.refused(NotUsable("history", -1), kind, ("settled",), OLD)

    def test_properties(self):
        for store in SOME:
            rule, history = store.rule_now, store.history_now
            self.same(store.store_now, store_after(rule, history))
            self.same(store.log_now, store_after(rule, history)[0])
            self.same(store.deeds_now, deeds_now(rule, history))
            self.same(store.harms_now, harms_now(rule, history))
        self.same(Store((), OLD).log_now, (("keep", "a", 1), ("free", "a"), ("plain", "a", 2)))
        self.same([Store((), HARM).harms_now, Store((), HARM + (("stop",),)).harms_now], [(("old", "a"),), ()])
        self.same(Store(("settled",), OLD[:1]).deeds_now,
                  (("flush", "a"), ("seal",), ("stop",), ("strike", "a"), ("write", "a")))

    def test_it_never_changes(self):
        store = Store((), OLD[:1])
        for name in ("rule_now", "history_now", "log_now", "store_now", "deeds_now", "harms_now"):
            self.assertIs(type(vars(Store)[name]), property)
            with self.assertRaises(AttributeError):
                setattr(store, name, ())
        longer = store
        longer += ("seal",)
        self.same([store.history_now, longer.history_now], [OLD[:1], OLD[:2]])
        self.same([len(store), store["a"]], [1, ("a", 1, False, (0, 1))])

    def test_plus(self):
        for store in SOME:
            for deed in store.deeds_now:
                if type(store) is Store or not harms_now(store.rule_now, store.history_now + (deed,)):
                    more = store + deed
                    self.assertIs(type(more), type(store))
                    self.same([more.rule_now, more.history_now], [store.rule_now, store.history_now + (deed,)])

    def test_plus_of_wrong_deeds(self):
        for store in (Store((), OLD), Careful((), OLD)):
            for thing in ODD + (("point", 0), ("point", True), ["seal"], OLD, store):
                self.refused(InvalidDeed(thing, "deed"), lambda: store + thing)
            self.refused(InvalidDeed(("end",), "end"), lambda: store + ("end",))
            self.refused(InvalidDeed(("seal",), "mode"), lambda: store + ("seal",))
        for kind in (Store, Careful):
            self.refused(InvalidDeed(("free", "a"), "settled"), lambda: kind(ALL, OLD[:2]) + ("free", "a"))
            self.refused(InvalidDeed(("plain", "a"), "quiet"), lambda: kind(("calm", "quiet"), OLD[:3]) + OLD[3])

    def test_in(self):
        store = Store((), TWO)
        self.same([page in store for page in ("zz", "abcdefgh", "a", "z")], [True, True, False, False])
        self.same(["a" in Store((), (("strike", "a"),)), "a" in Store()], [True, False])
        for thing in ODD + (["zz"], ("zz",), store):
            self.assertIs(thing in store, False)

    def test_items(self):
        store = Store((), TWO)
        self.same([store["zz"], store["abcdefgh"]], [("zz", 1, True, (1,)), ("abcdefgh", 3, False, (0, 3))])
        for thing in ODD + ("a", "z", ["zz"], ("zz",), slice(0, 1), store):
            self.refused(NotUsable("page", -1), lambda: store[thing])
        self.refused(NotUsable("page", -1), lambda: Store()["a"])

    def test_counting(self):
        self.same([len(store) for store in SOME], [0, 2, 7, 8, 0, 2, 0, 5, 0, 2, 7])

    def test_truth(self):
        self.same([bool(store) for store in SOME], [True, True, True, False] + [True] * 7)
        # Each deed counts, not only the last one.
        self.same([bool(Store((), MISSED[:4])), bool(Store((), MISSED)), bool(Store((), MISSED + OLD[-1:]))],
                  [True, False, False])

    def test_equal(self):
        for one in SOME:
            for two in SOME:
                same = one.rule_now == two.rule_now and one.history_now == two.history_now
                self.assertIs(one == two, same)
                self.assertIs(one != two, not same)
            for thing in ODD + (one.history_now, one.rule_now, one.store_now, [one]):
                self.assertIs(one == thing, False)
        self.assertTrue(Store((), OLD) == Careful((), tuple(OLD)))
        self.assertTrue(Careful((), OLD) == Store((), OLD))
        # The stores of these two are equal, their rules are not.
        self.assertFalse(Store() == Store(ALL))

    def test_beginnings(self):
        for one in SOME:
            for two in SOME:
                begins = one.rule_now == two.rule_now and two.history_now[:len(one)] == one.history_now
                self.assertIs(one <= two, begins)
            for thing in ODD + (one.history_now, [one]):
                self.assertIs(one <= thing, False)
        self.same([Store((), OLD) <= Store((), OLD[:6]), Store() <= Store(("ahead",), OLD[:2])], [False, False])

    def test_str(self):
        for store in SOME:
            self.same(str(store).split("\n"), picture(store.rule_now, store.history_now))
        self.same(str(Store()), "runs 0 0 0")

    def test_it_is_not_iterated_over(self):
        with self.assertRaises(TypeError):
            list(Store((), OLD))


class Carefuls(Case):
    def test_example(self):
        self.refused(NotUsable("harm", 7), lambda: Careful((), OLD) + ("put", "a"))

    def test_it_is_a_store(self):
        self.assertEqual(Careful.__bases__, (Store,))
        self.assertEqual(str(inspect.signature(Careful)), "(rule=(), history=())")
        for name in ("__init__", "__add__"):
            self.assertIn(name, vars(Careful))
        careful = Careful(history=OLD)
        self.same([careful.history_now, len(careful), "a" in careful, bool(careful)], [OLD, 7, True, True])
        self.same(str(careful + ("point", 1)), "goes 1 3 3\na        plain   - -     0,1,3")

    def test_the_first_harm(self):
        self.refused(NotUsable("harm", 7), Careful, (), HARM)
        self.refused(NotUsable("harm", 7), Careful, (), HARM + (("end",), ("stop",), ("put", "a")))
        self.refused(NotUsable("harm", 4), Careful, (), MISSED)
        self.refused(NotUsable("harm", 4), Careful, (), MISSED + (("stop",), ("end",)))
        twice = read_deeds("keep a\nseal\nkeep b\nflush a\npoint 1\nseal\nstop\nput b\nend\nwrite a\nstop\nput b\nend")
        self.refused(NotUsable("harm", 12), Careful, (), twice)
        self.same(Careful((), twice[:12]).history_now, twice[:12])

    def test_errors_of_store_come_first(self):
        self.refused(NotUsable("rule", -1), Careful, ("dead", "ahead"), HARM)
        self.refused(NotUsable("history", -1), Careful, (), HARM + (("seal",),))
        self.refused(InvalidDeed(("put", "b"), "put"), lambda: Careful((), OLD) + ("put", "b"))

    def test_a_store_takes_what_a_careful_one_refuses(self):
        self.same((Store((), OLD) + ("put", "a")).history_now, HARM)
        self.assertIs(type(Careful((), OLD) + ("stop",)), Careful)
        self.assertIs(type(Store((), OLD) + ("stop",)), Store)


if __name__ == "__main__":
    unittest.main()
