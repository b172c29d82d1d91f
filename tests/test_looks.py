"""[27]: what lies on a page, is held for it, and lives there."""

import inspect
import unittest

from pagelives.deedreadings import read_deeds
from pagelives.errors import NotUsable
from pagelives.kinds import GUARDS
from pagelives.looks import held_on, life_on, owner_of, set_on
from tests.samples import ODD, OLD, SIXTY, Case

TEXT = "keep a\nseal\nplain b\nwrite b\nflush b\nfree a\nplain a\nseal\nfree b\nkeep b"
DEEDS = read_deeds(TEXT)


class Looks(Case):
    def test_example(self):
        told = [set_on((), OLD, "a"), set_on((), OLD, "b"), held_on((), OLD[:5], "a"), life_on((), OLD[:5], "a"),
                life_on((), OLD[:5], "a", sealed=True), owner_of((), OLD, 3)]
        self.same(told, [(0, 1, 3), (0,), (3, False), "plain", "kept", 2])

    def test_sets(self):
        told = [set_on((), DEEDS[:n], "b") for n in range(len(DEEDS) + 1)]
        self.same(told, [(0,), (0,), (0,), (0,), (0, 3), (3,), (3,), (3,), (3,), (3,), (3, 5)])
        self.same([set_on(rule, OLD[:1], "a") for rule in ((), ("ahead",))], [(0, 1), (0,)])

    def test_held(self):
        told = [held_on((), DEEDS[:n], "b") for n in (2, 3, 4, 5, 9, 10)]
        self.same(told, [(None, False), (None, False), (3, False), (3, True), (None, False), (5, False)])

    def test_lives(self):
        told = [(life_on((), DEEDS[:n], "a"), life_on((), DEEDS[:n], "a", sealed=True)) for n in (0, 1, 2, 6, 7, 8)]
        self.same(told, [("free", "free"), ("kept", "free"), ("kept", "kept"), ("free", "kept"), ("plain", "kept"),
                         ("plain", "plain")])
        self.same([life_on((), DEEDS, "b"), life_on((), DEEDS, "b", sealed=True), life_on((), DEEDS, "c", sealed=True)],
                  ["kept", "plain", "free"])
        self.same(life_on((), OLD[:5], "a", sealed=False), "plain")

    def test_lives_while_it_goes(self):
        stopped = DEEDS + (("stop",),)
        self.same([life_on((), stopped, page, sealed=k) for page in "ab" for k in (False, True)], ["plain"] * 4)

    def test_owners(self):
        self.same([owner_of((), DEEDS, n) for n in range(6)], [0, 1, 2, 2, 4, 5])
        self.same(owner_of((), (), 0), 0)
        stopped = (("keep", "a"), ("write", "a"), ("stop",))
        self.same([owner_of((), stopped, n) for n in range(3)], [0, 1, 1])


class Wrong(Case):
    def test_rules_and_histories(self):
        for ask in (set_on, held_on, life_on, owner_of):
            for thing in ODD + (GUARDS, ["calm"]):
                self.refused(NotUsable("rule", -1), ask, thing, None, None)
            for thing in ODD + (list(OLD), OLD + (("seal",),)):
                self.refused(NotUsable("history", -1), ask, (), thing, None)
            self.refused(NotUsable("history", -1), ask, ("settled",), OLD, None)
        self.refused(NotUsable("rule", -1), life_on, None, None, None, sealed=None)
        self.refused(NotUsable("history", -1), life_on, (), None, None, sealed=None)

    def test_pages(self):
        for ask in (set_on, held_on, life_on):
            for thing in ODD:
                self.refused(NotUsable("page", -1), ask, (), OLD, thing)
            ask((), OLD, "abcdefgh")
        self.refused(NotUsable("page", -1), life_on, (), OLD, "A", sealed=None)

    def test_sealed(self):
        for thing in ODD:
            if not isinstance(thing, bool):
                self.refused(NotUsable("sealed", -1), life_on, (), OLD, "a", sealed=thing)
        with self.assertRaises(TypeError):
            life_on((), OLD, "a", True)

    def test_numbers(self):
        for thing in (4, -1, SIXTY, True, False, None, "1", (1,), [1], ()):
            self.refused(NotUsable("number", -1), owner_of, (), OLD, thing)
        self.refused(NotUsable("number", -1), owner_of, (), (), 1)

    def test_names(self):
        for ask in (set_on, held_on):
            self.assertEqual(str(inspect.signature(ask)), "(rule, history, page)")
        self.assertEqual(str(inspect.signature(life_on)), "(rule, history, page, *, sealed=False)")
        self.assertEqual(str(inspect.signature(owner_of)), "(rule, history, number)")
        self.same(held_on(page="a", history=OLD[:1], rule=()), (1, False))


if __name__ == "__main__":
    unittest.main()
