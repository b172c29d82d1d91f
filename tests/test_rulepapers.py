"""[44]: rules papers, and what checks them."""

import inspect
import unittest

from pagelives.closures import all_stands
from pagelives.errors import InvalidPaper, NotUsable
from pagelives.harmchecker import lets_harm
from pagelives.kinds import GUARDS, HARMS
from pagelives.leastrules import greatest_rules, least_rules
from pagelives.rulechecker import lets_rules
from pagelives.rulepapers import rules_paper
from pagelives.searches import harm_history
from pagelives.standchecker import lets_stands
from pagelives.stands import FIRST_STAND
from tests.draws import Draws
from tests.samples import ALL, ODD, OLD, Case

HARM = OLD + (("put", "a"),)
TWO = {"harms": ("old",), "guards": ("first", "struck")}
MISSED = {"harms": ("missed",), "guards": ("clean", "dead", "fixed"), "always": ("clean", "level")}
BUT_DEAD = ("ahead", "calm", "clean", "first", "fixed", "level")
CASES = (
    TWO, MISSED,
    {"harms": ("old",), "guards": ()},
    {"guards": (), "always": ALL},
    {"guards": ("dead", "struck"), "always": BUT_DEAD},
    {"guards": ("calm", "clean", "dead", "quiet", "struck"), "always": ("ahead", "fixed", "level")},
    {"harms": ("open", "old"), "guards": ("ahead", "calm", "first", "quiet")},
    {"harms": ("old",), "guards": ("dead",), "always": ("first",)},
    {"harms": ("old", "missed"), "guards": ("clean",)},
)


def joined(some, always=()):
    """The rule of two sets of guards."""
    return tuple(sorted({*some, *always}))


def changed(part, at, thing):
    """A tuple with another value at one place."""
    return part[:at] + (thing,) + part[at + 1:]


class Papers(Case):
    def check(self, choice):
        """A paper of the package is as the document says, and is accepted."""
        guards, always, harms = choice["guards"], choice.get("always", ()), choice.get("harms", HARMS)
        paper = rules_paper(**choice)
        good, bad = paper
        for some, stands in good:
            self.same(lets_stands(joined(some, always), stands, harms=harms), len(stands))
        for some, harm, history in bad:
            self.assertIn(harm, harms)
            self.same(lets_harm(joined(some, always), harm, ("history", history)), True)
        for part in good + bad:
            self.assertLessEqual(set(part[0]), set(guards))
            self.same(part[0], joined(part[0]))
        self.same(lets_rules(paper, **choice), least_rules(**choice))

    def test_papers_are_accepted(self):
        for choice in CASES:
            self.check(choice)

    def test_drawn_papers(self):
        draws = Draws(440)
        for harms in (("old",), ("missed",), ("open",), ("open", "missed"), HARMS) * 2:
            self.check({"harms": harms, "guards": draws.some_of(ALL, 3)[:5], "always": draws.some_of(ALL)})
            self.check({"harms": harms, "guards": draws.some_of(ALL, 3)[:4]})

    def test_eight_guards(self):
        self.check({"guards": ALL[:8]})
        self.check({"harms": ("open", "old"), "guards": ALL[4:], "always": ALL[:3]})

    def test_names(self):
        self.assertEqual(str(inspect.signature(rules_paper)), "(*, harms=('old', 'missed', 'open'), guards, always=())")
        self.assertEqual(str(inspect.signature(lets_rules)),
                         "(thing, *, harms=('old', 'missed', 'open'), guards, always=())")
        self.same(lets_rules(thing=rules_paper(guards=()), guards=()), ())
        with self.assertRaises(TypeError):
            rules_paper(HARMS, ("dead",))
        with self.assertRaises(TypeError):
            lets_rules(((), ()), HARMS, ("dead",))

    def test_all_harms_where_none_are_named(self):
        paper = rules_paper(guards=("dead", "struck"), always=BUT_DEAD)
        self.same([part[:1] for part in paper[0]], [(("dead",),)])
        self.same(lets_rules(paper, guards=("dead", "struck"), always=BUT_DEAD), (("dead",),))
        self.same(lets_rules(paper, harms=HARMS[::-1], guards=("dead", "struck"), always=BUT_DEAD), (("dead",),))


class Checker(Case):
    def fault(self, word, at, thing, **choice):
        self.refused(InvalidPaper(word, at), lets_rules, thing, **choice)

    def test_example(self):
        self.fault("left", ("struck",), ((), (((), "old", OLD + (("put", "a"),)),)), harms=("old",),
                   guards=("struck",))

    def test_shape(self):
        good, bad = rules_paper(**TWO)
        some, stands = good[0]
        least, harm, history = bad[0]
        wrong = [
            (), (good,), (good, bad, ()), [good, bad], (list(good), bad), (good, list(bad)), (None, bad), (good, None),
            (good + (None,), bad), (good + ((),), bad), (good + ((some,),), bad), (good + ((some, stands, ()),), bad),
            (([some, stands],), bad), ((some,), bad), ("aa", "bb"), ({}, {}), ("", ()), (1, 2), (True, False),
            (good, bad + (None,)), (good, bad + ((),)), (good, bad + ((least, harm),)), (good, ("old",)),
            (good, bad + ((least, harm, history, 1),)), (good, bad + ([least, harm, history],)), (good, (bad,)),
        ]
        for thing in wrong + list(ODD):
            self.fault("shape", -1, thing, **TWO)
        # The shape of the whole is looked at before any element.
        self.fault("shape", -1, (((None, None),), (None,)), **TWO)

    def test_sets_of_good(self):
        good, bad = rules_paper(**TWO)
        for thing in ODD + (["first"], ("struck", "first"), ("first", "first"), ("dead",), ("first", "dead"), "first",
                            ("old",), (("first",),), ("dead", "first"), GUARDS, ("first", None), (1, "first")):
            for k in range(2):
                self.fault("set", (0, k), (changed(good, k, (thing, good[k][1])), bad), **TWO)
                self.fault("set", (0, k), (changed(good, k, (thing, None)), ((None, None, None),)), **TWO)

    def test_stands(self):
        good, bad = rules_paper(**TWO)
        for k in range(2):
            some, stands = good[k]
            for thing in ODD + (list(stands), stands[1:], stands[:-1], stands[::-1], stands + stands[-1:],
                                (FIRST_STAND,), all_stands(()), stands[:3] + ("seal",) + stands[3:]):
                self.fault("stands", (0, k), (changed(good, k, (some, thing)), bad), **TWO)
            self.fault("stands", (0, k), (changed(good, k, (some, None)), ((None, None, None),)), **TWO)
        # A set that is not good has no such stands.
        self.fault("stands", (0, 2), (good + (((), all_stands(())),), bad), **TWO)

    def test_more_stands_than_are_needed(self):
        choice = {"harms": ("old",), "guards": ("first", "struck")}
        stands = all_stands(("first",))
        self.same(lets_rules(((((), stands),), ()), harms=("old",), guards=("struck",), always=("first",)), ((),))
        more = ((("first", "struck"), stands),) + rules_paper(**choice)[0]
        self.same(lets_rules((more, rules_paper(**choice)[1]), **choice), (("first",), ("struck",)))

    def test_sets_of_bad(self):
        good, bad = rules_paper(**MISSED)
        self.assertEqual(len(bad), 2)
        for thing in ODD + (["dead"], ("fixed", "dead"), ("dead", "dead"), ("ahead",), ("level",), "dead", ("old",)):
            for k in range(2):
                self.fault("set", (1, k), (good, changed(bad, k, (thing, *bad[k][1:]))), **MISSED)
                self.fault("set", (1, k), (good, changed(bad, k, (thing, None, None))), **MISSED)

    def test_harms_of_bad(self):
        good, bad = rules_paper(**MISSED)
        for thing in ODD + ("old", "open", ("missed",), ["missed"], "calm", "Missed"):
            for k in range(2):
                self.fault("harm", (1, k), (good, changed(bad, k, (bad[k][0], thing, bad[k][2]))), **MISSED)
                self.fault("harm", (1, k), (good, changed(bad, k, (bad[k][0], thing, None))), **MISSED)

    def test_histories(self):
        good, bad = rules_paper(**MISSED)
        for k in range(2):
            some, harm, history = bad[k]
            for thing in ODD + ((), list(history), history[:-1], history[1:], HARM, history + (("put", "a"),),
                                "keep a", ("history", history)):
                self.fault("history", (1, k), (good, changed(bad, k, (some, harm, thing))), **MISSED)
            # A longer one does, also of other pages.
            for thing in (history + (("stop",),), history + (("keep", "c"), ("seal",))):
                self.same(lets_rules((good, changed(bad, k, (some, harm, thing))), **MISSED), (("dead", "fixed"),))

    def test_a_history_that_only_a_guard_bars(self):
        barred = (("keep", "a"), ("seal",), ("free", "a"), ("plain", "a"), ("write", "a"), ("seal",), ("stop",),
                  ("put", "a"))
        for guard in ("first", "struck"):
            choice = {"harms": ("old",), "guards": (guard,)}
            self.fault("history", (1, 0), ((), (((guard,), "old", barred),)), **choice)
            self.fault("left", (guard,), ((), (((), "old", barred),)), **choice)
            # The guards in always bar, too.
            self.fault("history", (1, 0), ((), (((), "old", barred),)), harms=("old",), guards=(), always=(guard,))
        self.same(lets_rules(((), (((), "old", barred),)), harms=("old",), guards=()), ())
        self.same(lets_rules(((), ((("dead",), "old", barred),)), harms=("old",), guards=("dead",)), ())

    def test_what_is_left(self):
        good, bad = rules_paper(**TWO)
        self.fault("left", (), ((), ()), **TWO)
        self.fault("left", (), (good, ()), **TWO)
        self.fault("left", ("first",), ((), bad), **TWO)
        self.fault("left", ("struck",), (good[:1], bad), **TWO)
        self.fault("left", ("first",), (good[1:], bad), **TWO)
        both = (("first", "struck"), good[0][1])
        self.fault("left", ("first",), ((both,), bad), **TWO)
        self.fault("left", (), ((both,), ()), **TWO)

    def test_left_by_size_then_ascending(self):
        choice = {"harms": ("missed",), "guards": ("clean", "dead", "fixed"), "always": ("level",)}
        history = harm_history(("level",), "missed")
        last = (("clean", "dead", "fixed"), all_stands(("clean", "dead", "fixed", "level")))
        bad = [(some, "missed", harm_history(joined(some, ("level",)), "missed"))
               for some in (("clean", "dead"), ("clean", "fixed"), ("dead", "fixed"))]
        self.same(lets_rules(((last,), tuple(bad)), **choice), (last[0],))
        self.fault("left", ("clean",), ((last,), (((), "missed", history),)), **choice)
        self.fault("left", ("dead", "fixed"), ((last,), tuple(bad[:2])), **choice)
        self.fault("left", ("clean", "fixed"), ((last,), (bad[0], bad[2])), **choice)
        self.fault("left", ("dead",), ((last,), (bad[1],)), **choice)
        self.fault("left", ("fixed",), ((last,), (bad[0],)), **choice)
        self.fault("left", ("clean", "dead", "fixed"), ((), tuple(bad)), **choice)
        # ("dead",) comes before ("clean", "fixed"): the smaller one first.
        alone = (("clean",), "missed", harm_history(("clean", "level"), "missed"))
        self.fault("left", ("dead",), ((last,), (alone,)), **choice)

    def test_which_comes_first(self):
        good, bad = rules_paper(**MISSED)
        spoilt = (None, None, None)
        # Good before bad, elements in their order, and what is left last.
        self.fault("set", (0, 1), (good + ((None, None),), (spoilt,)), **MISSED)
        self.fault("stands", (0, 0), (((good[0][0], None), (None, None)), (spoilt,)), **MISSED)
        self.fault("set", (1, 0), ((), (spoilt, (bad[0][0], None, None))), **MISSED)
        self.fault("harm", (1, 0), ((), ((bad[0][0], None, None), spoilt)), **MISSED)
        self.fault("history", (1, 0), ((), ((bad[0][0], "missed", None), spoilt)), **MISSED)
        self.fault("history", (1, 1), (good, (bad[0], (bad[1][0], "missed", ()))), **MISSED)
        self.fault("left", ("fixed",), (good, bad[:1]), **MISSED)

    def test_parts_that_stand_twice(self):
        for choice in CASES:
            good, bad = rules_paper(**choice)
            self.same(lets_rules((good + good, bad + bad), **choice), least_rules(**choice))
            self.same(lets_rules((good[::-1] + good, bad[::-1]), **choice), least_rules(**choice))

    def test_more_sets_than_are_needed(self):
        # Any sets that are good, or are not, may stand there besides; the least of good are told.
        guards, always = ("calm", "clean", "dead", "quiet", "struck"), ("ahead", "fixed", "level")
        choice = {"guards": guards, "always": always}
        good, bad = rules_paper(**choice)
        full = (guards, all_stands(joined(guards, always)))
        self.same(lets_rules(((full,) + good, bad), **choice), least_rules(**choice))
        less = tuple([(some[1:], harm, history) for some, harm, history in bad])
        self.same(lets_rules((good + (full,), less + bad), **choice), least_rules(**choice))
        none = ((), "open", harm_history(always, "open"))
        self.same(lets_rules((good, (none,) + bad), **choice), least_rules(**choice))

    def test_a_part_left_out(self):
        # No set of a paper of the package is there without need.
        for choice in CASES:
            good, bad = rules_paper(**choice)
            for k in range(len(good)):
                self.left(choice, (good[:k] + good[k + 1:], bad), good[k][0])
            for k in range(len(bad)):
                self.left(choice, (good, bad[:k] + bad[k + 1:]), bad[k][0])

    def test_they_have_no_more_than_is_needed(self):
        for choice in CASES:
            good, bad = rules_paper(**choice)
            self.same([part[0] for part in good], list(least_rules(**choice)))
            self.same([part[0] for part in bad], list(greatest_rules(**choice)))

    def left(self, choice, paper, some):
        """A set is left, the first one by size that is in no part; the one that was left out is left, too."""
        with self.assertRaises(InvalidPaper) as caught:
            lets_rules(paper, **choice)
        self.same(caught.exception.word, "left")
        told = caught.exception.at
        lies = [part[0] for part in paper[1] if set(told) <= set(part[0])]
        includes = [part[0] for part in paper[0] if set(part[0]) <= set(told)]
        self.same([lies, includes], [[], []])
        self.assertLessEqual((len(told), told), (len(some), some))

    def test_papers_for_another_choice(self):
        # What is accepted for another choice is true of it.
        found = set()
        for choice in CASES:
            paper = rules_paper(**choice)
            for other in CASES:
                try:
                    told = lets_rules(paper, **other)
                except InvalidPaper as error:
                    found.add(error.word)
                else:
                    self.same(told, least_rules(**other))
        self.assertEqual(found, {"set", "stands", "harm", "history", "left"})

    def test_guards_that_stand_in_always_too(self):
        choice = {"harms": ("old",), "guards": ("first", "struck"), "always": ("first",)}
        paper = rules_paper(**choice)
        self.same([[part[0] for part in paper[0]], paper[1]], [[()], ()])
        self.same(lets_rules(paper, **choice), ((),))
        self.same([part[0] for part in rules_paper(**MISSED)[1]], [("clean", "dead"), ("clean", "fixed")])


class Wrong(Case):
    def test_harms(self):
        for thing in ODD + ((), "old", ["old"], ("old", "old"), ("old", None)):
            self.refused(NotUsable("harms", -1), rules_paper, harms=thing, guards=None, always=None)
            self.refused(NotUsable("harms", -1), lets_rules, None, harms=thing, guards=None, always=None)
            self.refused(NotUsable("harms", -1), lets_rules, ((), ()), harms=thing, guards=())

    def test_guards(self):
        for thing in ODD + (GUARDS[:3], ["dead"], "dead", ("dead", "dead"), ("dead", "old"), ALL[:9], ALL):
            self.refused(NotUsable("guards", -1), rules_paper, guards=thing, always=None)
            self.refused(NotUsable("guards", -1), lets_rules, None, guards=thing, always=None)

    def test_always(self):
        for thing in ODD + (GUARDS, ["dead"], "dead", ("dead", "dead")):
            self.refused(NotUsable("always", -1), rules_paper, guards=("dead",), always=thing)
            self.refused(NotUsable("always", -1), lets_rules, None, guards=("dead",), always=thing)


if __name__ == "__main__":
    unittest.main()
