"""[36]: shortest histories with a harm."""

import inspect
import unittest

from pagelives.closures import harms_of
from pagelives.deedrows import Deeds
from pagelives.errors import NotUsable
from pagelives.historychecker import is_history
from pagelives.kinds import GUARDS, HARMS
from pagelives.searches import harm_history
from pagelives.stops import harms_now
from pagelives.storeharms import harms_at
from tests.draws import Draws, deeds_tried
from tests.samples import ALL, ODD, Case


def shortest(rule, most):
    """The least number of deeds, up to most, with which each harm happens in a store of the page a."""
    found = {}
    for many, store, deed in deeds_tried(rule, most, ("a",)):
        for harm, _ in harms_at(store, deed):
            found.setdefault(harm, many + 1)
    return found


class Searches(Case):
    def check(self, rule, harm):
        """The history is as asked; its length, None without one."""
        history = harm_history(rule, harm)
        if history is None:
            self.assertNotIn(harm, harms_of(rule))
            return None
        self.assertIs(type(history), tuple)
        self.assertTrue(is_history(rule, history))
        self.assertEqual(Deeds(history).pages_now, ("a",))
        self.assertIn((harm, "a"), harms_now(rule, history))
        return len(history)

    def test_example(self):
        self.same([len(harm_history((), harm)) for harm in ("old", "missed", "open")], [7, 5, 6])
        self.same([harm_history(ALL, "old"), harm_history(ALL[1:], "open")[-2:]], [None, (("stop",), ("end",))])

    def test_shortest_for_each_harm(self):
        for rule, most in (((), 7), (("ahead",), 7), (("clean",), 6), (("clean", "struck"), 6), (("calm", "settled"), 7),
                           (ALL[1:], 9), (tuple([guard for guard in ALL if guard != "dead"]), 8),
                           (tuple([guard for guard in ALL if guard != "clean"]), 8), (("ahead", "clean", "dead"), 8)):
            wanted = shortest(rule, most)
            for harm in HARMS:
                many = self.check(rule, harm)
                if many is None or many <= most:
                    self.same(many, wanted.get(harm))
                else:
                    self.assertNotIn(harm, wanted)

    def test_drawn_rules(self):
        draws = Draws(36)
        for part in (2, 3, 4) * 10:
            rule = draws.some_of(ALL, part)
            told = [harm for harm in HARMS if self.check(rule, harm) is not None]
            self.same(tuple(sorted(told)), harms_of(rule))

    def test_what_reaches_the_disk_by_itself_is_no_deed(self):
        # By "settled" and "ahead" the page is sealed and flushed before its life ends; without, neither is needed.
        self.same([self.check(("ahead", "settled"), "old"), self.check(("ahead",), "old")], [9, 7])

    def test_points(self):
        history = harm_history(("dead", "fixed", "struck"), "missed")
        self.same(history, (("keep", "a"), ("seal",), ("point", 1), ("stop",), ("end",)))
        history = harm_history(("clean", "dead", "struck"), "missed")
        self.same(history, (("keep", "a"), ("seal",), ("stop",), ("point", 1), ("end",)))


class Wrong(Case):
    def test_rules(self):
        for thing in ODD + (GUARDS, ["calm"]):
            self.refused(NotUsable("rule", -1), harm_history, thing, None)

    def test_harms(self):
        for thing in ODD + (("old",), ["old"], "Old", "calm", "old ", HARMS):
            self.refused(NotUsable("harm", -1), harm_history, (), thing)
            self.refused(NotUsable("harm", -1), harm_history, ALL, thing)

    def test_names(self):
        self.assertEqual(str(inspect.signature(harm_history)), "(rule, harm)")
        self.same(harm_history(harm="open", rule=ALL), None)


if __name__ == "__main__":
    unittest.main()
