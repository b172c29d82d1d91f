"""[40]: class Stands."""

import inspect
import unittest

from pagelives.closures import all_stands, harms_of
from pagelives.errors import NotUsable
from pagelives.follows import follows
from pagelives.kinds import GUARDS
from pagelives.standclasses import Stands
from pagelives.stands import FIRST_STAND
from tests.model import stands_by_form
from tests.samples import ALL, ODD, OLD, SIXTY, Case

RULES = ((), ALL, ("ahead",), ("calm",), ("calm", "quiet"), ("ahead", "calm", "clean", "dead"), ("struck",))
SOME = [Stands(rule) for rule in RULES]


class Tables(Case):
    def test_example(self):
        table = Stands(ALL)
        told = [table.harms_now, FIRST_STAND in table, table <= Stands(()), Stands(()) <= table,
                table(FIRST_STAND)[0][0]]
        self.same(told, [(), True, True, False, "keep"])

    def test_properties(self):
        for rule, table in zip(RULES, SOME):
            self.same([table.rule_now, table.harms_now], [rule, harms_of(rule)])
            for name in ("rule_now", "harms_now"):
                self.assertIs(type(vars(Stands)[name]), property)
                with self.assertRaises(AttributeError):
                    setattr(table, name, ())

    def test_counting_and_going_over(self):
        for rule, table in zip(RULES, SOME):
            self.same([len(table), tuple(table)], [len(all_stands(rule)), all_stands(rule)])
            self.same(list(table), list(all_stands(rule)))
        self.same([len(table) for table in SOME[:2]], [270, 44])
        table = SOME[1]
        self.same(len([(one, two) for one in table for two in table]), 44 * 44)

    def test_in(self):
        for rule, table in zip(RULES[:4], SOME):
            stands = set(all_stands(rule))
            for stand in stands_by_form()[::7]:
                self.assertIs(stand in table, stand in stands)
            for stand in stands:
                self.assertIs(stand in table, True)
        for thing in ODD + (OLD, list(FIRST_STAND), FIRST_STAND[:3] + (1,) + FIRST_STAND[4:], (FIRST_STAND,), SOME[0]):
            self.assertIs(thing in SOME[0], False)

    def test_items(self):
        table = SOME[1]
        self.same([table[k] for k in range(len(table))], list(all_stands(ALL)))
        self.same([table[0], table[43]], [all_stands(ALL)[0], all_stands(ALL)[-1]])
        for k in (-1, -44, 44, 45, SIXTY, True, False, None, "0", (0,), [0], slice(0, 1), FIRST_STAND):
            self.refused(NotUsable("k", -1), lambda: table[k])

    def test_call(self):
        for rule, table in zip(RULES, SOME):
            for stand in stands_by_form()[::41]:
                self.same(table(stand), follows(rule, stand))
            self.same(table(stand=FIRST_STAND), follows(rule, FIRST_STAND))
            for thing in ODD + (OLD, list(FIRST_STAND), FIRST_STAND[:3] + (1,) + FIRST_STAND[4:]):
                self.refused(NotUsable("stand", -1), table, thing)

    def test_equal(self):
        for one in SOME:
            for two in SOME:
                self.assertIs(one == two, list(one) == list(two))
                self.assertIs(one != two, list(one) != list(two))
            for thing in ODD + (list(one), tuple(one), one.rule_now, [one]):
                self.assertIs(one == thing, False)

    def test_equal_by_another_rule(self):
        one, two = Stands(("calm",)), Stands(("calm", "quiet"))
        self.same([one == two, one.rule_now, two.rule_now], [True, ("calm",), ("calm", "quiet")])
        self.same([Stands(("clean",)) == Stands(()), Stands(("ahead",)) == Stands(())], [True, False])

    def test_parts(self):
        for one in SOME:
            for two in SOME:
                part = set(one) <= set(two)
                self.assertIs(one <= two, part)
                self.assertIs(two >= one, part)
        ahead, struck = Stands(("ahead",)), Stands(("struck",))
        self.same([ahead <= struck, struck <= ahead], [False, False])
        for thing in (None, 1, (), tuple(SOME[1]), list(SOME[1]), ALL):
            with self.assertRaises(TypeError):
                SOME[1] <= thing
            with self.assertRaises(TypeError):
                SOME[1] >= thing

    def test_wrong_rules(self):
        for thing in ODD + (GUARDS, ["calm"], SOME[0]):
            self.refused(NotUsable("rule", -1), Stands, thing)
        self.assertEqual(str(inspect.signature(Stands)), "(rule)")
        self.same(Stands(rule=ALL) == SOME[1], True)


if __name__ == "__main__":
    unittest.main()
