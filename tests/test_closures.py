"""[34] and [35]: all stands, and the harms that can happen."""

import inspect
import unittest

from pagelives.closures import all_stands, harms_of, is_harmless
from pagelives.deedbars import barred_by, deeds_now
from pagelives.errors import NotUsable
from pagelives.follows import follows
from pagelives.guardwords import guards_against
from pagelives.historychecker import is_history
from pagelives.kinds import GUARDS, HARMS
from pagelives.searches import deed_with
from pagelives.stands import FIRST_STAND, is_stand, stands_of
from pagelives.stops import harms_now
from pagelives.stores import store_after
from tests.draws import Draws, short_histories
from tests.model import Model, told_follows, told_words
from tests.samples import ALL, ODD, OLD, Case

BUT_ONE = tuple([tuple([guard for guard in ALL if guard != left]) for left in ALL])
SOME = ((), ALL, ("ahead", "calm"), ("ahead", "clean", "dead"), ("settled",)) + BUT_ONE
STARTS = ((), OLD[:1], OLD[:2], OLD[:5], OLD)


def told_stands(rule):
    """For each stand to which FIRST_STAND leads, a history of the page a behind which the page has it."""
    found = {FIRST_STAND: ()}
    last = [FIRST_STAND]
    while last:
        new = []
        for stand in last:
            for word, _, behind in told_follows(rule, stand):
                if behind not in found:
                    history = found[stand]
                    deed = () if word == "reach" else (deed_with(store_after(rule, history), word),)
                    found[behind] = history + deed
                    new.append(behind)
        last = new
    return found


class All(Case):
    def test_example(self):
        self.same([harms_of(()), is_harmless(ALL), is_harmless((), harms=("old",)), FIRST_STAND in all_stands(ALL)],
                  [("missed", "old", "open"), True, False, True])
        told = [harms_of(tuple([guard for guard in ALL if guard != left])) for left in ("dead", "ahead", "calm")]
        self.same(told, [("missed",), ("open",), ()])

    def test_all_stands(self):
        for rule in SOME + tuple([(guard,) for guard in ALL]):
            self.same(all_stands(rule), tuple(sorted(told_stands(rule))))

    def test_how_many(self):
        self.same([len(all_stands(rule)) for rule in ((), ALL)], [270, 44])

    def test_closed_and_by_form(self):
        for rule in SOME:
            stands = all_stands(rule)
            for stand in stands:
                self.assertIs(is_stand(stand), True)
                self.assertLessEqual({behind for _, _, behind in follows(rule, stand)}, set(stands))

    def test_harms(self):
        for rule in SOME + tuple([(guard,) for guard in ALL]):
            harms = {harm for stand in told_stands(rule) for _, harm, _ in told_follows(rule, stand)} - {""}
            self.same(harms_of(rule), tuple(sorted(harms)))
            for some in (("old",), ("missed",), ("open",), ("old", "open"), ("open", "missed"), HARMS, HARMS[::-1]):
                self.same(is_harmless(rule, harms=some), not harms & set(some))
            self.same(is_harmless(rule), not harms)

    def test_all_guards_but_one(self):
        needed = {"ahead": ("open",), "clean": ("missed",), "dead": ("missed",)}
        for left, rule in zip(ALL, BUT_ONE):
            self.same(harms_of(rule), needed.get(left, ()))
            self.same(is_harmless(rule), left not in needed)

    def test_single_guards(self):
        told = {guard: harms_of((guard,)) for guard in ALL}
        for guard in ALL:
            self.same(told[guard], ("missed", "open") if guard in ("struck", "first") else ("missed", "old", "open"))

    def test_more_guards(self):
        # [41]: with more guards there are no further stands and no further harms.
        for rule in SOME:
            for k in range(len(rule)):
                fewer = rule[:k] + rule[k + 1:]
                self.assertLessEqual(set(all_stands(rule)), set(all_stands(fewer)))
                self.assertLessEqual(set(harms_of(rule)), set(harms_of(fewer)))


class Histories(Case):
    """The stands are just those of all pages behind all histories."""

    def test_each_stand_is_one_of_a_history(self):
        for rule in ((), ALL, ("ahead",), ("calm", "dead"), BUT_ONE[4]):
            for stand, history in told_stands(rule).items():
                self.assertTrue(is_history(rule, history))
                self.assertIn(stand, stands_of(rule, history, "a"))
                self.check_words(rule, stand, history)

    def check_words(self, rule, stand, history):
        """What follows the stand is what can be done behind the history, and no more."""
        store = store_after(rule, history)
        told = told_words(stand)
        told.pop("reach", None)
        self.assertLessEqual(set(told), {deed[0] for deed in deeds_now((), history, "a")})
        self.assertLessEqual({deed[0] for deed in deeds_now((), history, "a")}, {*told, "point"})
        for word, (harm, behind, guards) in told.items():
            deed = deed_with(store, word)
            self.assertEqual(set(guards_against(ALL, store, deed)), guards)
            if barred_by(rule, history, deed):
                continue
            self.assertIn(behind, stands_of(rule, history + (deed,), "a"))
            if harm:
                self.assertIn((harm, "a"), harms_now(rule, history + (deed,)))

    def test_stands_of_short_histories(self):
        for rule, many, pages in (((), 4, ("a",)), ((), 3, ("a", "b")), (("ahead",), 4, ("a",)), (ALL, 5, ("a",))):
            stands = set(all_stands(rule))
            for history in short_histories(rule, many, pages):
                for page in pages:
                    self.assertLessEqual(set(stands_of(rule, history, page)), stands)

    def test_stands_of_drawn_histories(self):
        # [31] and [34]: the stands are those of a second telling, follow one another, and are among all.
        draws = Draws(34)
        harms = set()
        for n in range(200):
            rule = draws.some_of(ALL, 4)
            pages = ("a", "b", "c")[:1 + n % 3]
            history = draws.history(rule, 10, pages, STARTS)
            self.check(rule, history, pages, set(all_stands(rule)))
            harms = harms | {harm for k in range(len(history)) for harm, _ in harms_now(rule, history[:k + 1])}
        self.assertEqual(harms, set(HARMS))

    def check(self, rule, history, pages, stands):
        model = Model(rule)
        before = {page: {FIRST_STAND} for page in pages}
        for k, deed in enumerate(history):
            harms = model.do(deed)
            for page in pages:
                now = set(stands_of(rule, history[:k + 1], page))
                self.assertEqual(now, model.stands(page))
                self.assertLessEqual(now, stands)
                self.check_step(rule, deed, page, before[page], now)
                if deed == ("end",) or deed[1:] == (page,):
                    told = {step[1] for stand in before[page] for step in follows(rule, stand) if step[0] == deed[0]}
                    self.assertEqual({harm for harm, name in harms if name == page}, told - {""})
                before[page] = now

    def check_step(self, rule, deed, page, before, now):
        """[34] of the stands of a page before and behind a deed."""
        steps = [step for stand in before for step in follows(rule, stand)]
        behind = {step[2] for step in steps if step[0] == deed[0]}
        reached = {step[2] for stand in before | behind for step in follows(rule, stand) if step[0] == "reach"}
        self.assertLessEqual(now, before | behind | reached)
        if deed[1:] == (page,) or deed[0] in ("stop", "end"):
            self.assertLessEqual(behind, now)


class Wrong(Case):
    def test_rules(self):
        for thing in ODD + (GUARDS, ["calm"]):
            for ask in (all_stands, harms_of, is_harmless):
                self.refused(NotUsable("rule", -1), ask, thing)
            self.refused(NotUsable("rule", -1), is_harmless, thing, harms=None)

    def test_harms(self):
        for thing in ODD + ((), "old", ["old"], ("old", "old"), ("old", "open", "old"), ("old", None), ("Old",),
                            (("old",),), ("calm",), HARMS + ("",)):
            self.refused(NotUsable("harms", -1), is_harmless, (), harms=thing)

    def test_names(self):
        self.assertEqual(str(inspect.signature(all_stands)), "(rule)")
        self.assertEqual(str(inspect.signature(harms_of)), "(rule)")
        self.assertEqual(str(inspect.signature(is_harmless)), "(rule, *, harms=('old', 'missed', 'open'))")
        self.same([is_harmless(rule=ALL), harms_of(rule=ALL), len(all_stands(rule=ALL))], [True, (), 44])
        with self.assertRaises(TypeError):
            is_harmless((), ("old",))


if __name__ == "__main__":
    unittest.main()
