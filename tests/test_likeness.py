"""[39] and [41]: rules alike."""

import inspect
import unittest

from pagelives.closures import harms_of
from pagelives.deedrows import Deeds
from pagelives.errors import NotUsable
from pagelives.guardwords import guards_against
from pagelives.historychecker import is_history
from pagelives.kinds import GUARDS
from pagelives.likeness import have_same_harms, have_same_histories, is_included, parting_history
from tests.draws import Draws, deeds_tried
from tests.samples import ALL, ODD, Case

# [41]: a guard, and what it lets nothing remain for.
COVERED = {("calm", "quiet"), ("level", "whole"), ("fixed", "walked"), ("struck", "first")}
ENOUGH = ("ahead", "calm", "clean", "dead", "first", "fixed", "level")
ASKS = (have_same_harms, is_included, have_same_histories, parting_history)


def barring(rule, most, pages):
    """The guards that bar some deed behind a history by the rule with less than so many deeds of these pages."""
    return {guard for _, store, deed in deeds_tried(rule, most, pages) for guard in guards_against(ALL, store, deed)}


class Alike(Case):
    def check(self, rule, other):
        """The answers for two rules agree; the parting history is by the first alone. Whether it is included."""
        history = parting_history(rule, other)
        self.same(is_included(rule, other), history is None)
        self.same(have_same_histories(rule, other), is_included(rule, other) and is_included(other, rule))
        if history is not None:
            self.assertIs(type(history), tuple)
            self.same([is_history(rule, history), is_history(other, history)], [True, False])
            self.same(Deeds(history).pages_now, ("a",))
        return history is None

    def test_examples(self):
        told = [is_included(("calm",), ("quiet",)), is_included(("quiet",), ("calm",)),
                have_same_histories(("calm", "quiet"), ("calm",))]
        self.same(told, [True, False, True])
        self.same([have_same_harms((), ("calm",)), parting_history(("fixed",), ("walked",)), parting_history(ALL, ())],
                  [True, None, None])

    def test_each_guard_beside_each_other(self):
        for one in ALL:
            for two in ALL:
                self.same(self.check((one,), (two,)), one == two or (one, two) in COVERED)

    def test_each_guard_beside_all_others(self):
        for guard in ALL:
            rest = tuple([other for other in ALL if other != guard])
            self.same(self.check(rest, (guard,)), guard in [covered for _, covered in COVERED])
            self.same(self.check(rest, ALL), guard in [covered for _, covered in COVERED])
            self.assertTrue(self.check(ALL, rest))
        for guard, covered in COVERED:
            rest = tuple([other for other in ALL if other not in (guard, covered)])
            self.assertFalse(self.check(rest, (covered,)))

    def test_guards_and_none(self):
        for guard in ALL:
            self.assertTrue(self.check((guard,), ()))
            self.assertFalse(self.check((), (guard,)))
        self.assertTrue(self.check((), ()))
        self.assertTrue(self.check(ALL, ALL))

    def test_rules_that_bar_the_same(self):
        for guard, covered in COVERED:
            both = tuple(sorted((guard, covered)))
            self.same([have_same_histories(both, (guard,)), have_same_histories((guard,), both)], [True, True])
            self.same([have_same_histories(both, (covered,)), have_same_histories((covered,), both)], [False, False])
            self.same(have_same_harms(both, (guard,)), True)
        least = tuple([guard for guard in ALL if guard not in [covered for _, covered in COVERED]])
        self.same([have_same_histories(least, ALL), len(least)], [True, 8])

    def test_against_the_histories(self):
        # A guard that bars nothing behind short histories is included, or there is a longer one that parts.
        draws = Draws(39)
        for n, rule in enumerate(((), ALL) + tuple([draws.some_of(ALL) for _ in range(14)])):
            pages, most = (("a", "b"), 4) if n % 4 == 0 else (("a",), 6)
            found = barring(rule, most, pages)
            for guard in ALL:
                included = self.check(rule, (guard,))
                if guard in found or guard in rule:
                    self.same(included, guard not in found)
                else:
                    history = parting_history(rule, (guard,))
                    self.assertTrue(history is None or len(history) > most)

    def test_drawn_rules(self):
        draws = Draws(40)
        for part in (2, 3, 5) * 60:
            rule, other = draws.some_of(ALL, part), draws.some_of(ALL, part)
            wanted = all([guard in rule or [by for by, covered in COVERED if covered == guard and by in rule]
                          for guard in other])
            self.same(self.check(rule, other), wanted)

    def test_same_harms(self):
        draws = Draws(41)
        rules = [(), ALL, ENOUGH] + [draws.some_of(ALL, part) for part in (2, 3, 2, 3, 2)]
        harms = [harms_of(rule) for rule in rules]
        for one, some in zip(rules, harms):
            for two, others in zip(rules, harms):
                self.same(have_same_harms(one, two), some == others)
        self.same([have_same_harms((), ALL), have_same_harms(ENOUGH, ALL)], [False, True])


class Wrong(Case):
    def test_rules(self):
        for ask in ASKS:
            for thing in ODD + (GUARDS, ["calm"], "calm"):
                self.refused(NotUsable("rule", -1), ask, thing, None)
                self.refused(NotUsable("rule", -1), ask, thing, ALL)
                self.refused(NotUsable("other", -1), ask, (), thing)
                self.refused(NotUsable("other", -1), ask, ALL, thing)

    def test_names(self):
        for ask in ASKS:
            self.assertEqual(str(inspect.signature(ask)), "(rule, other)")
            ask(other=(), rule=ALL)
        self.same([is_included(other=(), rule=ALL), is_included(other=ALL, rule=())], [True, False])


if __name__ == "__main__":
    unittest.main()
