"""[16] and [17]: Rule and Without."""

import unittest

from pagelives.errors import NotUsable
from pagelives.kinds import GUARDS
from pagelives.rulevalues import Rule, Without
from tests.samples import ALL, ODD, Case

SOME = [Rule(), Rule(("calm",)), Rule(("dead",)), Rule(("calm", "dead")), Rule(ALL), Without("calm"), Without()]


class Rules(Case):
    def test_example(self):
        rule = Rule.of("dead", "ahead", "dead")
        told = [rule.guards_now, str(rule - "dead"), str(Rule()), "calm" in rule, rule <= Rule.every(),
                (rule | Rule(("calm",))) == rule + "calm"]
        self.same(told, [("ahead", "dead"), "ahead", "-", False, True, True])
        self.refused(NotUsable("guards", -1), Rule, ("dead", "ahead"))

    def test_making(self):
        self.same(Rule().guards_now, ())
        self.same(Rule(guards=ALL).guards_now, ALL)
        for thing in ODD + (["dead"], "dead", GUARDS, ("dead", "dead"), Rule()):
            self.refused(NotUsable("guards", -1), Rule, thing)

    def test_it_never_changes(self):
        rule = Rule(("dead",))
        with self.assertRaises(AttributeError):
            rule.guards_now = ()
        for change in (rule + "calm", rule - "dead", rule | Rule.every(), rule & Rule()):
            self.assertIs(type(change), Rule)
        more = rule
        more += "calm"
        self.same([rule.guards_now, more.guards_now], [("dead",), ("calm", "dead")])

    def test_in(self):
        rule = Rule.of("dead", "calm")
        self.same([guard in rule for guard in GUARDS], [guard in ("dead", "calm") for guard in GUARDS])
        for thing in ODD + (("dead",), ["dead"], rule, "dea"):
            self.assertIs(thing in rule, False)

    def test_counting_and_going_over(self):
        self.same([len(rule) for rule in SOME], [0, 1, 1, 2, 12, 11, 12])
        self.same([bool(rule) for rule in SOME], [False, True, True, True, True, True, True])
        self.same(list(Rule.of("dead", "ahead")), ["ahead", "dead"])
        self.same(tuple(Rule.every()), ALL)
        rule = Rule.of("dead", "calm")
        self.same([(one, two) for one in rule for two in rule][1:3], [("calm", "dead"), ("dead", "calm")])

    def test_str(self):
        self.same([str(rule) for rule in SOME[:4]], ["-", "calm", "dead", "calm, dead"])
        self.same(str(Rule.every()), ", ".join(ALL))

    def test_equal(self):
        for one in SOME:
            for two in SOME:
                self.assertIs(one == two, one.guards_now == two.guards_now)
                self.assertIs(one != two, one.guards_now != two.guards_now)
        for thing in ODD + ((), ("calm",), ALL):
            for rule in SOME:
                self.assertIs(rule == thing, False)
                self.assertIs(thing == rule, False)

    def test_parts(self):
        for one in SOME:
            for two in SOME:
                part = set(one.guards_now) <= set(two.guards_now)
                self.assertIs(one <= two, part)
                self.assertIs(two >= one, part)
        with self.assertRaises(TypeError):
            Rule() <= ()

    def test_or_and(self):
        for one in SOME:
            for two in SOME:
                both, each = one | two, one & two
                self.same([type(both), type(each)], [Rule, Rule])
                self.same(both.guards_now, tuple(sorted({*one, *two})))
                self.same(each.guards_now, tuple(sorted(set(one) & set(two))))
        for thing in ODD + ((), ("calm",), "calm"):
            self.refused(NotUsable("other", -1), lambda: Rule() | thing)
            self.refused(NotUsable("other", -1), lambda: Rule() & thing)

    def test_plus_minus(self):
        for rule in SOME:
            for guard in GUARDS:
                more, less = rule + guard, rule - guard
                self.same([type(more), type(less)], [Rule, Rule])
                self.same(more.guards_now, tuple(sorted({*rule, guard})))
                self.same(less.guards_now, tuple(sorted(set(rule) - {guard})))
        for thing in ODD + ((), ("calm",), ["calm"], Rule(("calm",)), "Calm"):
            self.refused(NotUsable("guard", -1), lambda: Rule() + thing)
            self.refused(NotUsable("guard", -1), lambda: Rule.every() - thing)

    def test_of_every_none(self):
        self.same([type(rule) for rule in (Rule.of(), Rule.every(), Rule.none())], [Rule, Rule, Rule])
        self.same([Rule.of().guards_now, Rule.every().guards_now, Rule.none().guards_now], [(), ALL, ()])
        self.same(Rule.of(*GUARDS, *ALL).guards_now, ALL)
        for thing in ODD + (["calm"], ("calm",)):
            self.refused(NotUsable("guards", 0), Rule.of, thing)
            self.refused(NotUsable("guards", 2), Rule.of, "dead", "calm", thing, "x")

    def test_kinds_of_the_methods(self):
        kinds = [type(vars(Rule)[name]) for name in ("of", "every", "none", "guards_now")]
        self.assertEqual(kinds, [classmethod, classmethod, staticmethod, property])
        self.assertIs(type(vars(Without)["left_now"]), property)


class Withouts(Case):
    def test_example(self):
        told = [len(Without("calm")), Without("quiet", "calm").left_now, Without() == Rule.every(),
                "calm" in Without("calm")]
        self.same(told, [11, ("calm", "quiet"), True, False])

    def test_it_is_a_rule(self):
        self.assertEqual(Without.__bases__, (Rule,))
        rule = Without("dead", "ahead", "dead")
        self.same(rule.left_now, ("ahead", "dead"))
        self.same(rule.guards_now, tuple([guard for guard in ALL if guard not in ("ahead", "dead")]))
        self.assertTrue(rule + "dead" == Without("ahead"))
        self.same(type(rule + "dead"), Rule)

    def test_all_and_none(self):
        self.same([Without().left_now, Without().guards_now], [(), ALL])
        self.same([Without(*GUARDS).left_now, Without(*GUARDS).guards_now, bool(Without(*GUARDS))], [ALL, (), False])

    def test_wrong_guards(self):
        for thing in ODD + (["calm"], ("calm",)):
            self.refused(NotUsable("guards", 0), Without, thing)
            self.refused(NotUsable("guards", 1), Without, "calm", thing, None)


if __name__ == "__main__":
    unittest.main()
