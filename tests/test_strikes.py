"""[48], [49] and [50]: which strikes are needed, strikes papers, and what checks them."""

import inspect
import unittest

from pagelives.deedreadings import read_deeds
from pagelives.errors import InvalidPaper
from pagelives.stretches import harms_along
from pagelives.strikechecker import lets_strikes
from pagelives.strikes import greatest_strikes, least_strikes, strikes_in, strikes_paper
from tests.draws import Draws
from tests.model import models_along, stop_without
from tests.samples import ALL, ODD, OLD, Case, parts

TWICE = OLD[:3] + (("strike", "a"), ("strike", "a")) + OLD[3:6]
MANY = read_deeds("keep a\nkeep b\nfree a\nfree b\nstrike a\nstrike b\nplain a\nplain b\nwrite a\nwrite b\nseal")
FIVE = read_deeds("strike a\nkeep a\nfree a\nstrike a\nstrike b\nstrike a\nplain a\nwrite a\nseal\nkeep b\nfree b\n"
                  "strike b\nplain b\nwrite b\nseal")
LIVES = read_deeds("keep a\nfree a\nstrike a\nplain a\nwrite a\nseal\nfree a\nkeep a\nfree a\nstrike a\nplain a\nwrite a"
                   "\nseal")
ENOUGH_BY_POINT = read_deeds("keep a\nseal\nfree a\nstrike a\nseal\npoint 1\nplain a\nwrite a\nseal")


def old_stops(rule, history, some):
    """The pairs (n, page) of the stops that bring old in the stretch with these strikes alone, told by the model."""
    found = []
    for n, model in enumerate(models_along(rule, history)):
        others = [k for k, record in enumerate(model.records) if record[0] == "strike" and k not in some]
        found = found + [(n, page) for harm, page in stop_without(model, others)[1] if harm == "old"]
    return found


class Sets(Case):
    def check(self, rule, history):
        """The sets are those of all sets, looked at one by one; the paper is accepted, and tells the least ones."""
        records = models_along(rule, history)[-1].records
        strikes = tuple([k for k, record in enumerate(records) if record[0] == "strike"])
        self.same(strikes_in(rule, history), strikes)
        good = [some for some in parts(strikes) if not old_stops(rule, history, some)]
        bad = [some for some in parts(strikes) if some not in good]
        least = [some for some in good if not [other for other in good if set(other) < set(some)]]
        greatest = [some for some in bad if not [other for other in bad if set(some) < set(other)]]
        self.same(least_strikes(rule, history), tuple(sorted(least)))
        self.same(greatest_strikes(rule, history), tuple(sorted(greatest)))
        # [50]
        for some in parts(strikes):
            if [other for other in good if set(other) <= set(some)]:
                self.assertIn(some, good)
        self.same(strikes in good, "old" not in [harm for harms in harms_along(rule, history) for harm, _ in harms])
        if "struck" in rule or "first" in rule:
            self.assertIn(strikes, good)
        self.check_paper(rule, history)
        return least

    def check_paper(self, rule, history):
        paper = strikes_paper(rule, history)
        good, bad = paper
        for some in good:
            self.same(old_stops(rule, history, some), [])
        for some, n, page in bad:
            self.assertIn((n, page), old_stops(rule, history, some))
        self.same(lets_strikes(rule, history, paper), least_strikes(rule, history))

    def test_examples(self):
        self.same([strikes_in((), TWICE), least_strikes((), TWICE), greatest_strikes((), TWICE),
                   least_strikes((), OLD[:6])], [(2, 3), ((2,), (3,)), ((),), ()])

    def test_without_strikes(self):
        for history in ((), OLD[:2], OLD[:5]):
            self.same([strikes_in((), history), least_strikes((), history), greatest_strikes((), history)],
                      [(), ((),), ()])
            self.same(strikes_paper((), history), (((),), ()))
        self.same([strikes_in((), OLD[:6]), least_strikes((), OLD[:6]), greatest_strikes((), OLD[:6])],
                  [(), (), ((),)])
        self.same(strikes_paper((), OLD[:6]), ((), (((), 6, "a"),)))

    def test_either_or_both(self):
        self.same([least_strikes((), MANY), greatest_strikes((), MANY)], [((4, 5),), ((4,), (5,))])
        self.same([least_strikes((), LIVES), greatest_strikes((), LIVES)], [((2, 7),), ((2,), (7,))])
        for history in (TWICE, MANY, LIVES):
            self.check((), history)

    def test_five_strikes(self):
        self.same(strikes_in((), FIVE), (0, 3, 4, 5, 9))
        self.same(least_strikes((), FIVE), ((3, 9), (5, 9)))
        self.same(greatest_strikes((), FIVE), ((0, 3, 4, 5), (0, 4, 9)))
        self.check((), FIVE)
        draws = Draws(485)
        for _ in range(6):
            history = draws.stretch((), 24, ("a", "b"), (FIVE,))
            while len(strikes_in((), history)) > 5:
                history = draws.stretch((), 24, ("a", "b"), (FIVE,))
            self.check((), history)

    def test_strikes_that_do_nothing(self):
        # One before the picture, one of another page, one that is never sealed, one behind the stop that would harm.
        self.same(least_strikes((), (("strike", "a"),) + OLD[:6]), ())
        self.same(least_strikes((), OLD[:3] + (("strike", "b"),) + OLD[3:6]), ())
        self.same([least_strikes((), OLD[:6] + (("strike", "a"),)), greatest_strikes((), OLD[:6] + (("strike", "a"),))],
                  [(), ((3,),)])
        self.same(least_strikes((), OLD[:6] + (("strike", "a"), ("seal",))), ())
        self.same(least_strikes((), OLD[:5] + (("strike", "a"), ("seal",))), ((3,),))
        self.same(least_strikes((), OLD[:2] + (("strike", "a"), ("seal",))), ((),))

    def test_with_a_point(self):
        # Behind the point the strike is not needed; the harm is looked at with the point less by records left out.
        self.same(least_strikes((), ENOUGH_BY_POINT), ((),))
        self.check((), ENOUGH_BY_POINT)
        text = "strike a\nkeep a\nseal\npoint 1\nfree a\nplain a\nwrite a\nseal"
        self.same([least_strikes((), read_deeds(text)), greatest_strikes((), read_deeds(text))], [(), ((0,),)])
        text = "strike a\nstrike a\nkeep a\nseal\nflush a\npoint 3\nfree a\nplain a\nwrite a\nseal"
        self.same(least_strikes((), read_deeds(text)), ((),))
        self.check((), read_deeds(text))

    def test_drawn_stretches(self):
        draws = Draws(48)
        found = set()
        starts = ((), OLD[:2], OLD[:5], OLD[:3] + (("strike", "a"),), TWICE[:7], MANY[:6])
        for n in range(150):
            rule = draws.some_of(ALL, 6)
            history = draws.stretch(rule, 14, ("a", "b")[:1 + n % 2], starts)
            if len(strikes_in(rule, history)) <= 4:
                found.add(len(self.check(rule, history)))
        self.assertLessEqual({0, 1, 2}, found)


class Checker(Case):
    def fault(self, word, at, thing, history=TWICE):
        self.refused(InvalidPaper(word, at), lets_strikes, (), history, thing)

    def told(self, thing, wanted, history=TWICE):
        self.same(lets_strikes((), history, thing), wanted)

    def test_examples(self):
        self.fault("stop", (1, 1), (((2,), (2, 3)), (((), 8, "a"), ((3,), 8, "a"))))
        self.fault("left", (3,), (((2,),), (((), 8, "a"),)))

    def test_accepted(self):
        self.told((((2,), (3,)), (((), 8, "a"),)), ((2,), (3,)))
        self.told((((3,), (2,)), (((), 8, "a"),)), ((2,), (3,)))
        # Sets that include others, sets twice, and stops twice.
        self.told((((2, 3), (3,), (2,), (3,)), (((), 8, "a"), ((), 8, "a"))), ((2,), (3,)))
        self.told((((4, 5),), (((4,), 11, "b"), ((5,), 11, "a"))), ((4, 5),), MANY)
        self.told((((4, 5),), (((), 11, "b"), ((), 11, "a"), ((5,), 11, "a"), ((4,), 11, "b"))), ((4, 5),), MANY)
        self.told((((),), ()), ((),), OLD[:5])
        self.told(((), (((), 6, "a"),)), (), OLD[:6])
        self.told((((),), ()), ((),), ())

    def test_shape(self):
        good, bad = ((2,), (3,)), (((), 8, "a"),)
        wrong = [(), (good,), (good, bad, ()), [good, bad], (list(good), bad), (good, list(bad)), (None, bad),
                 (good, None), (good, bad + (None,)), (good, bad + (((), 8),)), (good, bad + (((), 8, "a", 1),)),
                 (good, ([(), 8, "a"],)), (good, ((),)), ("aa", "bb"), (1, 2), ({}, {}), (good, ("old",)), ("", ()),
                 (True, False)]
        for thing in wrong + list(ODD):
            self.fault("shape", -1, thing)
        # The elements of good are any values there, and their sets come later.
        self.fault("shape", -1, ((None, 1), (None,)))
        self.fault("set", (0, 0), ((None, 1), bad))

    def test_sets(self):
        wrong = ODD + ((1,), (4,), (2, 2), (3, 2), [2], (2, 3, 4), 2, ("2",), (2, None), ((2,),), "2", (-1,))
        for thing in wrong:
            if thing not in ([], ()):
                self.fault("set", (0, 0), ((thing, (3,)), (((), 8, "a"),)))
                self.fault("set", (0, 1), (((2,), thing), (((), 8, "a"),)))
                self.fault("set", (1, 0), (((2,), (3,)), ((thing, 8, "a"),)))
                self.fault("set", (1, 1), (((2,), (3,)), (((), 8, "a"), (thing, None, None))))
        self.fault("set", (0, 0), (([], (3,)), (((), 8, "a"),)))

    def test_true_is_not_one(self):
        history = (("keep", "a"), ("strike", "a")) + OLD[2:6]
        self.same([strikes_in((), history), least_strikes((), history)], [(1,), ((1,),)])
        self.told((((1,),), (((), 6, "a"),)), ((1,),), history)
        self.fault("set", (0, 0), (((True,),), (((), 6, "a"),)), history)
        self.fault("set", (1, 0), (((1,),), (((True,), 6, "a"),)), history)
        self.fault("set", (0, 1), (((1,), (True,)), ()), history)
        first = (("strike", "b"), ("keep", "b"))
        self.fault("set", (0, 0), (((False,),), ()), first)
        self.fault("stop", (1, 0), (((1,),), (((), True, "a"),)), history)

    def test_not_enough(self):
        self.fault("old", (0, 0), (((), (2,), (3,)), ()))
        self.fault("old", (0, 2), (((2,), (3,), ()), ()))
        self.fault("old", (0, 0), (((4,), (5,)), ()), MANY)
        self.fault("old", (0, 1), (((4, 5), (5,)), ()), MANY)
        self.fault("old", (0, 0), (((),), ()), OLD[:6])
        self.fault("old", (0, 0), (((0, 4, 9),), ()), FIVE)

    def test_stops(self):
        good = ((2,), (3,))
        for n in ODD + (7, 9, 10, 80, (8,), [8], "8"):
            self.fault("stop", (1, 0), (good, (((), n, "a"),)))
            self.fault("stop", (1, 1), (good, (((), 8, "a"), ((), n, "a"))))
        for page in ODD + ("b", "aa", ("a",), ["a"]):
            self.fault("stop", (1, 0), (good, (((), 8, page),)))
        # With a strike there is no harm; neither with both.
        for some in ((2,), (3,), (2, 3)):
            self.fault("stop", (1, 0), (good, ((some, 8, "a"),)))
        self.fault("stop", (1, 0), (((4, 5),), (((4,), 11, "a"), ((5,), 11, "a"))), MANY)
        self.fault("stop", (1, 1), (((4, 5),), (((4,), 11, "b"), ((5,), 11, "b"))), MANY)

    def test_a_later_moment(self):
        longer = TWICE + (("write", "a"), ("strike", "b"), ("seal",))
        for n in (8, 9, 10, 11):
            self.told((((2,), (3,)), (((5,), n, "a"),)), ((2,), (3,)), longer)
        self.fault("stop", (1, 0), (((2,), (3,)), (((5,), 12, "a"),)), longer)

    def test_another_harm(self):
        # A stop that brings only missed or open, or old on another page, does not do.
        history = MANY + (("keep", "c"), ("seal",), ("point", 9))
        harms = harms_along((), history)[-1]
        self.same(harms, (("missed", "c"),))
        self.fault("stop", (1, 0), (((4, 5),), (((4,), 14, "c"),)), history)

    def test_what_is_left(self):
        self.fault("left", (), ((), ()))
        self.fault("left", (), (((2,), (3,)), ()))
        self.fault("left", (2,), ((), (((), 8, "a"),)))
        self.fault("left", (2,), (((3,),), (((), 8, "a"),)))
        self.fault("left", (4, 5), ((), (((4,), 11, "b"), ((5,), 11, "a"))), MANY)
        self.fault("left", (5,), (((4, 5),), (((4,), 11, "b"),)), MANY)
        self.fault("left", (4,), (((4, 5),), (((5,), 11, "a"),)), MANY)
        self.fault("left", (), (((4, 5),), ()), MANY)
        self.fault("left", (), ((), ()), ())

    def test_left_by_size_then_ascending(self):
        good, bad = ((3, 9), (5, 9)), (((0, 3, 4, 5), 15, "b"), ((0, 4, 9), 9, "a"))
        self.told((good, bad), good, FIVE)
        self.fault("left", (9,), (good, bad[:1]), FIVE)
        self.fault("left", (3,), (good, bad[1:]), FIVE)
        self.fault("left", (5, 9), (good[:1], bad), FIVE)
        self.fault("left", (3, 9), (good[1:], bad), FIVE)
        self.fault("left", (3, 9), ((), bad), FIVE)
        # (9,) comes before (0, 3): the smaller one first, not the one that sorts first.
        self.fault("left", (9,), (good, (((0, 4, 5), 15, "b"), ((3,), 15, "b"))), FIVE)
        self.fault("left", (0, 9), (good, (((0, 4), 15, "b"), ((5,), 15, "b"), ((3,), 15, "b"), ((4, 9), 9, "a"),
                                           ((0, 3, 5), 15, "b"), ((3, 4, 5), 15, "b"), ((4, 5), 15, "b"))), FIVE)

    def test_which_comes_first(self):
        self.fault("set", (0, 1), (((2,), None, ()), ((None, None, None),)))
        self.fault("old", (0, 1), (((2,), (), None), ((None, None, None),)))
        self.fault("set", (1, 0), ((), ((None, None, None), ((), None, None))))
        self.fault("stop", (1, 0), ((), (((), None, None), (None, None, None))))
        self.fault("stop", (1, 1), ((), (((), 8, "a"), ((), 8, "b"), (None, 8, "a"))))

    def test_papers_of_other_stretches(self):
        for paper_of in (TWICE, MANY, FIVE, LIVES, OLD[:6], OLD[:5], ()):
            paper = strikes_paper((), paper_of)
            for history in (TWICE, MANY, FIVE, LIVES, OLD[:6], OLD[:5], ()):
                try:
                    told = lets_strikes((), history, paper)
                except InvalidPaper as error:
                    self.assertIn(error.word, ("set", "old", "stop", "left"))
                else:
                    self.same(told, least_strikes((), history))

    def test_names(self):
        self.assertEqual(str(inspect.signature(lets_strikes)), "(rule, history, thing)")
        self.same(lets_strikes(thing=strikes_paper((), TWICE), history=TWICE, rule=()), ((2,), (3,)))


if __name__ == "__main__":
    unittest.main()
