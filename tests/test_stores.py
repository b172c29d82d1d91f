"""[22]: stores as data, with [3], [4], [5] and [6]."""

import inspect
import unittest

from pagelives.deedreadings import read_deeds
from pagelives.errors import NotUsable
from pagelives.stores import first_store, store_after
from tests.samples import ALL, ODD, OLD, Case


def after(text, rule=()):
    """The store behind the history of these deeds, with commas between."""
    return store_after(rule, read_deeds(text.replace(", ", "\n")))


class Examples(Case):
    def test_examples(self):
        self.same([first_store(), store_after((), OLD)[:4]],
                  [((), 0, 0, (0,), (), None),
                   ((("keep", "a", 1), ("free", "a"), ("plain", "a", 2)), 3, 0, (0, 1, 2, 2))])
        self.same([store_after((), OLD)[4:], store_after(("ahead",), OLD[:1])[4]],
                  [((("a", None, False, (0, 1, 3)),), ()), (("a", 1, False, (0,)),)])

    def test_empty_history(self):
        self.same(store_after((), ()), first_store())
        self.same(store_after(ALL, ()), first_store())


class Running(Case):
    def test_keep(self):
        self.same(after("keep a"), ((("keep", "a", 1),), 0, 0, (0, 1), (("a", 1, False, (0, 1)),), None))

    def test_plain(self):
        self.same(after("plain a"), ((("plain", "a", 1),), 0, 0, (0, 1), (("a", None, False, (0,)),), None))

    def test_write(self):
        self.same(after("keep a, write a"),
                  ((("keep", "a", 1), ("write", "a", 2)), 0, 0, (0, 1, 1), (("a", 2, False, (0, 1, 2)),), None))
        self.same(after("plain a, write a, write a"),
                  ((("plain", "a", 1),), 0, 0, (0, 1, 1, 1), (("a", 3, False, (0, 2, 3)),), None))

    def test_free(self):
        self.same(after("keep a, free a"),
                  ((("keep", "a", 1), ("free", "a")), 0, 0, (0, 1), (("a", None, False, (0, 1)),), None))
        self.same(after("keep a, flush a, free a")[4], (("a", None, False, (1,)),))

    def test_strike(self):
        self.same(after("strike b"), ((("strike", "b"),), 0, 0, (0,), (("b", None, False, (0,)),), None))
        self.same(after("keep a, strike a")[4], (("a", 1, False, (0, 1)),))

    def test_flush(self):
        self.same(after("keep a, flush a")[4], (("a", 1, True, (1,)),))
        self.same(after("keep a, flush a, flush a")[4], (("a", 1, True, (1,)),))
        self.same(after("keep a, flush a, write a")[4], (("a", 2, False, (1, 2)),))
        self.same(after("plain a, write a, flush a")[4], (("a", 2, True, (2,)),))

    def test_seal_and_point(self):
        self.same(after("keep a, free a, seal, strike a")[1:3], (2, 0))
        self.same(after("keep a, free a, seal, point 1, strike a, point 2")[1:3], (2, 2))
        self.same(after("keep a, seal")[4], (("a", 1, False, (0, 1)),))

    def test_several_pages(self):
        store = after("plain zz, keep b, write zz, keep abcdefgh, write b, flush zz")
        self.same(store[0], (("plain", "zz", 1), ("keep", "b", 2), ("keep", "abcdefgh", 4), ("write", "b", 5)))
        self.same(store[3], (0, 1, 2, 1, 4, 2))
        self.same(store[4], (("abcdefgh", 4, False, (0, 4)), ("b", 5, False, (0, 2, 5)), ("zz", 3, True, (3,))))


class Going(Case):
    def test_stop_takes_what_is_not_sealed(self):
        store = after("keep a, seal, write a, flush a, keep b, stop")
        self.same(store, ((("keep", "a", 1),), 1, 0, (0, 1, 1, 3),
                          (("a", None, False, (2,)), ("b", None, False, (0, 3))), ()))

    def test_numbers_are_not_used_again(self):
        store = after("keep a, stop, end, keep a")
        self.same(store, ((("keep", "a", 2),), 0, 0, (0, 1, 2), (("a", 2, False, (0, 1, 2)),), None))

    def test_put(self):
        store = after("keep a, keep b, seal, write b, stop, put b")
        self.same(store[4:], ((("a", None, False, (0, 1)), ("b", None, False, (2,))), ("b",)))
        store = after("keep a, keep b, seal, write b, stop, put b, put a")
        self.same(store[4:], ((("a", None, False, (1,)), ("b", None, False, (2,))), ("a", "b")))

    def test_end(self):
        store = after("keep a, seal, stop, put a, end")
        self.same(store, ((("keep", "a", 1),), 1, 0, (0, 1), (("a", None, False, (1,)),), None))
        self.same(after("stop, end"), first_store())

    def test_a_stop_while_it_goes(self):
        store = after("keep a, keep b, seal, stop, put a, stop")
        self.same(store[4:], ((("a", None, False, (1,)), ("b", None, False, (0, 2))), ()))
        again = after("keep a, keep b, seal, stop, put a, stop, put b, put a, end")
        self.same(again, after("keep a, keep b, seal, stop, put a, put b, end"))

    def test_a_point_while_it_goes(self):
        store = after("keep a, keep b, seal, stop, put b, point 1, end")
        self.same(store, ((("keep", "a", 1), ("keep", "b", 2)), 2, 1, (0, 1, 2),
                          (("a", None, False, (0, 1)), ("b", None, False, (2,))), None))
        self.same(after("keep a, seal, stop, put a, point 1")[2:], (1, (0, 1), (("a", None, False, (1,)),), ("a",)))

    def test_the_life_behind_a_stop_owns_what_is_written(self):
        store = after("keep a, seal, free a, plain a, write a, stop, put a, end, write a")
        self.same(store[3:5], ((0, 1, 2, 2, 1), (("a", 4, False, (1, 4)),)))

    def test_a_second_life_of_another_sort(self):
        store = after("plain a, write a, flush a, free a, keep a, seal, stop")
        self.same(store[3:5], ((0, 1, 1, 3), (("a", None, False, (2, 3)),)))


class Ahead(Case):
    """What "ahead" holds back reaches the disk at the seal of its record."""

    def test_keep_and_write(self):
        rule = ("ahead",)
        self.same([after(text, rule)[4] for text in ("keep a", "keep a, seal", "keep a, write a, seal")],
                  [(("a", 1, False, (0,)),), (("a", 1, False, (0, 1)),), (("a", 2, False, (0, 2)),)])
        self.same(after("keep a, seal, write a", rule)[4], (("a", 2, False, (0, 1)),))
        self.same(after("keep a, seal, flush a, write a, seal", rule)[4], (("a", 2, False, (1, 2)),))

    def test_plain_pages_are_not_held_back(self):
        self.same(after("plain a, write a", ("ahead",))[4], (("a", 2, False, (0, 2)),))
        self.same(after("plain a, write a", ALL)[4], (("a", 2, False, (0, 2)),))

    def test_what_is_not_held_any_more(self):
        rule = ("ahead",)
        self.same(after("keep a, free a, seal", rule)[4], (("a", None, False, (0,)),))
        self.same(after("keep a, stop, end, strike a, seal", rule)[4], (("a", None, False, (0,)),))

    def test_all_pages_at_one_seal(self):
        store = after("keep a, plain b, write b, keep c, flush b, seal", ("ahead",))
        self.same([row[3] for row in store[4]], [(0, 1), (3,), (0, 4)])


class Wrong(Case):
    def test_rules(self):
        for thing in ODD + (["ahead"], ("dead", "ahead"), "ahead"):
            self.refused(NotUsable("rule", -1), store_after, thing, ())
            self.refused(NotUsable("rule", -1), store_after, thing, None)

    def test_histories(self):
        for thing in ODD + (list(OLD), OLD + (("seal",),), (("free", "a"),), OLD[:1] + (None,)):
            self.refused(NotUsable("history", -1), store_after, (), thing)
        self.refused(NotUsable("history", -1), store_after, ALL, OLD)
        self.refused(NotUsable("history", -1), store_after, ("settled",), OLD)

    def test_names(self):
        self.assertEqual(list(inspect.signature(store_after).parameters), ["rule", "history"])
        self.assertEqual(list(inspect.signature(first_store).parameters), [])
        self.same(store_after(history=(), rule=()), first_store())


if __name__ == "__main__":
    unittest.main()
