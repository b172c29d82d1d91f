"""[42], [43] and [45]: least rules, greatest rules, needed guards."""

import inspect
import unittest

from pagelives.closures import is_harmless
from pagelives.errors import NotUsable
from pagelives.kinds import GUARDS, HARMS
from pagelives.leastrules import greatest_rules, least_rules, needed_guards
from tests.draws import Draws
from tests.samples import ALL, ODD, Case, parts

EIGHT = ("ahead", "calm", "clean", "dead", "first", "fixed", "level", "quiet")
ENOUGH = ("ahead", "calm", "clean", "dead", "first", "fixed", "level")
BUT_DEAD = ("ahead", "calm", "clean", "first", "fixed", "level")
ALL_HARMS = (("old",), ("missed",), ("open",), ("old", "open"), ("open", "missed"), HARMS, HARMS[::-1])


def good_parts(harms, guards, always):
    """The sets of some of guards that are good, each looked at by itself."""
    return [some for some in parts(guards) if is_harmless(tuple(sorted({*some, *always})), harms=harms)]


class Rules(Case):
    def check(self, harms, guards, always=()):
        """The least and the greatest sets are those of all sets, looked at one by one."""
        good = good_parts(harms, guards, always)
        bad = [some for some in parts(guards) if some not in good]
        least = [some for some in good if not [other for other in good if set(other) < set(some)]]
        greatest = [some for some in bad if not [other for other in bad if set(some) < set(other)]]
        told = least_rules(harms=harms, guards=guards, always=always)
        self.same(told, tuple(sorted(least)))
        self.same(greatest_rules(harms=harms, guards=guards, always=always), tuple(sorted(greatest)))
        for some in parts(guards):
            includes = [other for other in told if set(other) <= set(some)] != []
            lies = [other for other in greatest if set(some) <= set(other)] != []
            self.assertEqual([includes, lies], [some in good, some not in good])

    def test_examples(self):
        self.same([least_rules(harms=("old",), guards=("first", "struck")),
                   greatest_rules(harms=("old",), guards=("first", "struck"))], [(("first",), ("struck",)), ((),)])
        told = [least_rules(harms=("old",), guards=("dead",)), least_rules(harms=("old",), guards=(), always=("first",)),
                needed_guards(("dead", "first"), harms=("old",))]
        self.same(told, [(), ((),), ("first",)])

    def test_no_guards(self):
        for harms in ALL_HARMS:
            self.same(least_rules(harms=harms, guards=()), ())
            self.same(greatest_rules(harms=harms, guards=()), ((),))
            self.same(least_rules(harms=harms, guards=(), always=ALL), ((),))
            self.same(greatest_rules(harms=harms, guards=(), always=ALL), ())

    def test_one_guard(self):
        for guard in ALL:
            rest = tuple([other for other in ALL if other != guard])
            for harms in (("old",), HARMS):
                self.check(harms, (guard,))
                self.check(harms, (guard,), rest)
        self.same(least_rules(guards=("dead",), always=BUT_DEAD), (("dead",),))
        self.same(greatest_rules(guards=("dead",), always=BUT_DEAD), ((),))
        self.same(least_rules(guards=("struck",), always=BUT_DEAD), ())
        self.same(greatest_rules(guards=("struck",), always=BUT_DEAD), (("struck",),))

    def test_some_guards(self):
        draws = Draws(43)
        for harms in ALL_HARMS:
            self.check(harms, draws.some_of(ALL, 3)[:5], draws.some_of(ALL))
            self.check(harms, draws.some_of(ALL, 3)[:4])
            self.check(harms, ("ahead", "calm", "dead"), ("clean",))

    def test_eight_guards(self):
        self.check(HARMS, EIGHT)
        self.same(least_rules(guards=EIGHT),
                  (("ahead", "calm", "clean", "dead", "first", "fixed", "level"),
                   ("ahead", "clean", "dead", "first", "fixed", "level", "quiet")))
        self.check(("open", "old"), ALL[4:], ALL[:3])

    def test_nine_guards_are_refused(self):
        for ask in (least_rules, greatest_rules):
            for guards in (ALL[:9], ALL[3:], ALL):
                self.refused(NotUsable("guards", -1), ask, guards=guards)
                self.refused(NotUsable("guards", -1), ask, guards=guards, always=None)

    def test_always_may_stand_in_guards(self):
        self.same(least_rules(harms=("old",), guards=("first", "struck"), always=("first",)), ((),))
        self.same(least_rules(guards=("calm", "dead", "quiet"), always=BUT_DEAD), (("dead",),))
        missed = {"harms": ("missed",), "guards": ("clean", "dead", "fixed")}
        self.same(least_rules(always=("clean", "level"), **missed), (("dead", "fixed"),))
        self.same(greatest_rules(always=("clean", "level"), **missed), (("clean", "dead"), ("clean", "fixed")))
        self.check(("missed",), ("clean", "dead", "fixed"), ("clean", "level"))
        self.check(HARMS, ALL[:4], ("ahead", "clean", "fixed", "level", "struck"))
        self.check(HARMS, ALL[:4], ALL)

    def test_harms_in_another_order(self):
        for some in (("old", "open"), HARMS, ("missed", "old")):
            for always in ((), ("ahead", "clean")):
                for ask in (least_rules, greatest_rules):
                    self.same(ask(harms=some[::-1], guards=("calm", "dead", "struck"), always=always),
                              ask(harms=some, guards=("calm", "dead", "struck"), always=always))
            self.same(needed_guards(ALL, harms=some[::-1]), needed_guards(ALL, harms=some))

    def test_all_harms_where_none_are_named(self):
        for always in ((), ("ahead", "clean", "fixed", "level"), ALL):
            for ask in (least_rules, greatest_rules):
                self.same(ask(guards=("calm", "dead", "struck"), always=always),
                          ask(guards=("calm", "dead", "struck"), always=always, harms=HARMS))
        self.same(needed_guards(ALL), needed_guards(ALL, harms=HARMS))

    def test_more_harms(self):
        # [45]: with more harms each least set includes a least one for fewer.
        for always in (("ahead", "fixed", "level"), ("ahead", "clean", "walked", "whole")):
            guards = ("calm", "clean", "dead", "first", "struck")
            more = least_rules(guards=guards, always=always)
            self.assertEqual(len(more), 2)
            for harms in ALL_HARMS:
                fewer = least_rules(harms=harms, guards=guards, always=always)
                for some in more:
                    self.assertTrue([other for other in fewer if set(other) <= set(some)])


class Needed(Case):
    def check(self, rule, harms):
        wanted = [left for left in rule
                  if not is_harmless(tuple([guard for guard in rule if guard != left]), harms=harms)]
        self.same(needed_guards(rule, harms=harms), tuple(wanted))
        if len(rule) <= 7:
            # [45]: what is needed is in all good sets of guards of the rule.
            good = good_parts(harms, rule, ())
            self.same(tuple([guard for guard in rule if all([guard in some for some in good])]), tuple(wanted))

    def test_needed(self):
        self.same(needed_guards(ALL), ("ahead", "clean", "dead"))
        self.same([needed_guards(ALL, harms=(harm,)) for harm in HARMS], [(), ("clean", "dead"), ("ahead",)])
        self.same(needed_guards(ENOUGH), ENOUGH)
        self.same([needed_guards(("struck",), harms=("old",)), needed_guards(("first", "struck"), harms=("old",))],
                  [("struck",), ()])

    def test_harmless_rules(self):
        draws = Draws(44)
        found = 0
        for harms in ALL_HARMS:
            for _ in range(10):
                rule = draws.some_of(ALL)
                if is_harmless(rule, harms=harms):
                    found = found + 1
                    self.check(rule, harms)
                else:
                    self.refused(NotUsable("rule", -1), needed_guards, rule, harms=harms)
        self.assertGreater(found, 5)

    def test_a_harm_by_the_rule_itself(self):
        for harms in ALL_HARMS:
            self.refused(NotUsable("rule", -1), needed_guards, (), harms=harms)
        self.refused(NotUsable("rule", -1), needed_guards, ("struck",))
        self.refused(NotUsable("rule", -1), needed_guards, ("struck",), harms=("open", "old"))
        # It is refused behind both parameters.
        self.refused(NotUsable("harms", -1), needed_guards, (), harms=())


class Wrong(Case):
    def test_harms(self):
        for thing in ODD + ((), "old", ["old"], ("old", "old"), ("old", None), HARMS + HARMS[:1]):
            for ask in (least_rules, greatest_rules):
                self.refused(NotUsable("harms", -1), ask, harms=thing, guards=("dead",))
                self.refused(NotUsable("harms", -1), ask, harms=thing, guards=None, always=None)
            self.refused(NotUsable("harms", -1), needed_guards, ALL, harms=thing)
            self.refused(NotUsable("rule", -1), needed_guards, None, harms=thing)

    def test_guards(self):
        for thing in ODD + (GUARDS[:3], ("dead", "ahead"), ["dead"], "dead", ("dead", "dead"), ("dead", "old")):
            for ask in (least_rules, greatest_rules):
                self.refused(NotUsable("guards", -1), ask, guards=thing)
                self.refused(NotUsable("guards", -1), ask, harms=("old",), guards=thing, always=None)

    def test_always_and_rules(self):
        for thing in ODD + (GUARDS, ["dead"], "dead", ("dead", "dead")):
            for ask in (least_rules, greatest_rules):
                self.refused(NotUsable("always", -1), ask, guards=("dead",), always=thing)
            self.refused(NotUsable("rule", -1), needed_guards, thing)
            self.refused(NotUsable("rule", -1), needed_guards, thing, harms=None)

    def test_names(self):
        for ask in (least_rules, greatest_rules):
            self.assertEqual(str(inspect.signature(ask)), "(*, harms=('old', 'missed', 'open'), guards, always=())")
            with self.assertRaises(TypeError):
                ask(HARMS, ("dead",))
        self.assertEqual(str(inspect.signature(needed_guards)), "(rule, *, harms=('old', 'missed', 'open'))")
        with self.assertRaises(TypeError):
            needed_guards(ALL, HARMS)
        self.same(needed_guards(rule=ALL, harms=("open",)), ("ahead",))


if __name__ == "__main__":
    unittest.main()
