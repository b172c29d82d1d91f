"""[37]: closed lists of stands."""

import inspect
import unittest

from pagelives.closures import all_stands, is_harmless
from pagelives.errors import InvalidPaper, NotUsable
from pagelives.kinds import GUARDS, HARMS
from pagelives.standchecker import lets_stands
from pagelives.stands import FIRST_STAND
from tests.draws import Draws
from tests.model import stands_by_form, told_follows
from tests.samples import ALL, ODD, OLD, Case

ENOUGH = ("ahead", "calm", "clean", "dead", "first", "fixed", "level")
MISSES = ("goes", "kept", "none", "under")
BEHIND = ("runs", "kept", "kept", True, False, False, False, "none", False, "under", "under")
OPENS = ("goes", "plain", "none", "over")


class Lists(Case):
    def fault(self, word, at, rule, thing, harms=HARMS):
        self.refused(InvalidPaper(word, at), lets_stands, rule, thing, harms=harms)

    def test_example(self):
        self.fault("follow", 0, (), (FIRST_STAND,))

    def test_all_stands(self):
        for rule in (ALL, ENOUGH, ("ahead", "clean", "dead", "first", "quiet", "settled", "walked")):
            self.same(lets_stands(rule, all_stands(rule)), len(all_stands(rule)))
        self.same([lets_stands(("struck",), all_stands(("struck",)), harms=("old",)), lets_stands(ALL, all_stands(ALL))],
                  [169, 44])

    def test_harms_that_are_not_asked(self):
        stands = all_stands(("struck",))
        for harms in (("missed",), ("open",), ("old", "open"), HARMS, HARMS[::-1]):
            self.fault("harm", self.first_with(("struck",), stands, harms), ("struck",), stands, harms)
        rule = ("dead", "first")
        self.same(lets_stands(rule, all_stands(rule), harms=("old",)), len(all_stands(rule)))

    def first_with(self, rule, stands, harms):
        """The index of the first stand that one of harms follows."""
        return [k for k, stand in enumerate(stands) if {step[1] for step in told_follows(rule, stand)} & set(harms)][0]

    def test_drawn_rules(self):
        draws = Draws(37)
        for _ in range(40):
            rule = draws.some_of(ALL)
            stands = all_stands(rule)
            if is_harmless(rule):
                self.same(lets_stands(rule, stands), len(stands))
            else:
                self.fault("harm", self.first_with(rule, stands, HARMS), rule, stands)

    def test_more_stands_than_all(self):
        # What is closed with fewer guards is closed with more.
        for fewer, rule in ((ENOUGH, ALL), (("struck",), ("calm", "struck"))):
            self.assertLess(len(all_stands(rule)), len(all_stands(fewer)))
            self.same(lets_stands(rule, all_stands(fewer), harms=("old",)), len(all_stands(fewer)))
        # All stands by form that do not lead to a harm.
        good = set(stands_by_form())
        while True:
            left = {stand for stand in good
                    if any(step[1] or step[2] not in good for step in told_follows(ALL, stand))}
            if not left:
                break
            good = good - left
        self.assertLess(set(all_stands(ALL)), good)
        self.same(lets_stands(ALL, tuple(sorted(good))), len(good))

    def test_what_is_asked_holds_for_further_stands(self):
        stands = all_stands(ALL)
        more = tuple(sorted(stands + (OPENS,)))
        self.fault("follow", more.index(OPENS), ALL, more)
        behind = ("runs", "plain", "plain", True, False, False, False, "none", False, "over", "over")
        closed = tuple(sorted(set(stands) | set(self.closed(ALL, (OPENS, behind)))))
        self.fault("harm", closed.index(OPENS), ALL, closed, ("open",))
        self.same(lets_stands(ALL, closed, harms=("old",)), len(closed))

    def closed(self, rule, stands):
        """These stands and all to which they lead."""
        found = set(stands)
        while True:
            more = {step[2] for stand in found for step in told_follows(rule, stand)} | found
            if more == found:
                return tuple(sorted(found))
            found = more

    def test_shape(self):
        for thing in ODD + (list(all_stands(ALL)), {FIRST_STAND: True}, "goes"):
            if not isinstance(thing, tuple):
                self.fault("shape", -1, (), thing)

    def test_stand(self):
        stands = all_stands(ALL)
        for thing in ODD + (OLD, list(FIRST_STAND), FIRST_STAND[:3] + (1,) + FIRST_STAND[4:],
                            ("goes", "free", "left", "due")):
            self.fault("stand", 0, ALL, (thing,))
            for k in (0, 7, 43):
                self.fault("stand", k, ALL, stands[:k] + (thing,) + stands[k + 1:])
                self.fault("stand", k, ALL, stands[:k] + (thing, thing) + stands[k:])
            self.fault("stand", 44, ALL, stands + (thing,))

    def test_twice_and_exchanged(self):
        stands = all_stands(ALL)
        for k in range(len(stands) - 1):
            self.fault("stand", k + 1, ALL, stands[:k + 1] + stands[k:])
            self.fault("stand", k + 1, ALL, stands[:k] + (stands[k + 1], stands[k]) + stands[k + 2:])
        self.fault("stand", 1, ALL, stands[::-1])
        self.fault("stand", 44, ALL, stands + (FIRST_STAND,))

    def test_one_left_out(self):
        for rule in (ALL, ENOUGH):
            stands = all_stands(rule)
            for k, left in enumerate(stands):
                rest = stands[:k] + stands[k + 1:]
                if left == FIRST_STAND:
                    self.fault("first", -1, rule, rest)
                else:
                    before = [k for k, stand in enumerate(rest)
                              if left in [step[2] for step in told_follows(rule, stand)]]
                    self.fault("follow", before[0], rule, rest)

    def test_first(self):
        self.fault("first", -1, (), ())
        self.fault("first", -1, (), (MISSES,))
        self.fault("first", -1, (), (MISSES, BEHIND))
        self.fault("stand", 1, (), (BEHIND, MISSES))

    def test_which_comes_first(self):
        rule = ("fixed",)
        self.fault("harm", 0, rule, (MISSES, FIRST_STAND, BEHIND))
        self.fault("follow", 1, rule, (MISSES, FIRST_STAND, BEHIND), ("old", "open"))
        self.fault("follow", 0, rule, (MISSES, FIRST_STAND))
        self.fault("stand", 2, rule, (MISSES, FIRST_STAND, FIRST_STAND))
        self.fault("stand", 2, rule, (MISSES, BEHIND, None))


class Wrong(Case):
    def test_rules(self):
        for thing in ODD + (GUARDS, ["calm"]):
            self.refused(NotUsable("rule", -1), lets_stands, thing, None)
            self.refused(NotUsable("rule", -1), lets_stands, thing, None, harms=None)

    def test_harms(self):
        for thing in ODD + ((), ["old"], ("old", "old"), ("old", None), "old"):
            self.refused(NotUsable("harms", -1), lets_stands, (), None, harms=thing)
            self.refused(NotUsable("harms", -1), lets_stands, ALL, all_stands(ALL), harms=thing)

    def test_names(self):
        self.assertEqual(str(inspect.signature(lets_stands)), "(rule, thing, *, harms=('old', 'missed', 'open'))")
        self.same(lets_stands(thing=all_stands(ALL), rule=ALL), 44)


if __name__ == "__main__":
    unittest.main()
