"""[38]: harm papers, and what checks them."""

import inspect
import unittest

from pagelives.closures import all_stands, harms_of
from pagelives.deedreadings import read_deeds
from pagelives.deedtexts import history_text
from pagelives.errors import InvalidPaper, NotUsable
from pagelives.harmchecker import lets_harm
from pagelives.harmpapers import harm_paper
from pagelives.historychecker import is_history
from pagelives.kinds import GUARDS, HARMS
from pagelives.searches import harm_history
from pagelives.stands import FIRST_STAND
from tests.draws import Draws
from tests.samples import ALL, ODD, OLD, Case

HARM = OLD + (("put", "a"),)
RULES = ((), ALL, ("ahead",), ("clean", "dead"), ("struck",), ("ahead", "clean", "dead", "quiet"), ("first", "fixed"))


class Papers(Case):
    def test_both_kinds_for_each_harm(self):
        found = set()
        for rule in RULES:
            for harm in HARMS:
                paper = harm_paper(rule, harm)
                self.assertEqual([type(paper), len(paper)], [tuple, 2])
                can = harm in harms_of(rule)
                self.same(paper[0], "history" if can else "stands")
                self.same(lets_harm(rule, harm, paper), can)
                found = found | {(harm, can)}
        self.assertEqual(len(found), 6)

    def test_drawn_rules(self):
        draws = Draws(38)
        for part in (2, 3, 4) * 8:
            rule = draws.some_of(ALL, part)
            for harm in HARMS:
                self.same(lets_harm(rule, harm, harm_paper(rule, harm)), harm in harms_of(rule))

    def test_papers_for_another_rule_or_harm(self):
        for rule in RULES:
            for harm in HARMS:
                paper = harm_paper(rule, harm)
                for other in RULES:
                    for another in HARMS:
                        self.check(other, another, paper)

    def check(self, rule, harm, paper):
        """What is accepted of such a paper is true; otherwise it is refused."""
        try:
            told = lets_harm(rule, harm, paper)
        except InvalidPaper as error:
            if paper[0] == "history":
                self.assertEqual(is_history(rule, paper[1]), error.word == "harm")
            else:
                self.assertIn(error.word, ("follow", "harm"))
        else:
            self.same(told, harm in harms_of(rule))
            self.same(paper[0], "history" if told else "stands")

    def test_names(self):
        self.assertEqual(str(inspect.signature(harm_paper)), "(rule, harm)")
        self.assertEqual(str(inspect.signature(lets_harm)), "(rule, harm, thing)")
        self.same(lets_harm(thing=harm_paper(harm="old", rule=ALL), harm="old", rule=ALL), False)


class Checker(Case):
    def fault(self, word, at, rule, harm, thing):
        self.refused(InvalidPaper(word, at), lets_harm, rule, harm, thing)

    def test_example(self):
        self.same([lets_harm((), "old", ("history", HARM)), lets_harm(ALL, "old", harm_paper(ALL, "old"))],
                  [True, False])
        self.fault("harm", -1, (), "missed", ("history", OLD))

    def test_shape(self):
        for thing in ODD + ((), ("stands",), ("history", OLD, None), ["history", HARM], ("deeds", HARM), HARM,
                            (["history"], HARM), (("history",), HARM), ("History", HARM), (True, HARM), "history",
                            (HARM, "history"), all_stands(ALL)):
            self.fault("shape", -1, (), "old", thing)

    def test_errors_of_lets_stands(self):
        stands = all_stands(ALL)
        for thing in (None, list(stands), "stands", 1):
            self.fault("shape", -1, ALL, "old", ("stands", thing))
        self.fault("stand", 3, ALL, "old", ("stands", stands[:3] + (None,)))
        self.fault("first", -1, ALL, "old", ("stands", ()))
        self.fault("follow", 0, ALL, "old", ("stands", (FIRST_STAND,)))
        self.fault("stand", 1, ALL, "old", ("stands", (FIRST_STAND, FIRST_STAND)))

    def test_stands_with_this_harm_alone(self):
        stands = all_stands(("struck",))
        self.same(lets_harm(("struck",), "old", ("stands", stands)), False)
        for harm in ("missed", "open"):
            with self.assertRaises(InvalidPaper) as caught:
                lets_harm(("struck",), harm, ("stands", stands))
            self.same(caught.exception.word, "harm")
            self.assertGreaterEqual(caught.exception.at, 0)

    def test_errors_of_lets_history(self):
        for thing in (None, list(HARM), "keep a", 1):
            self.fault("shape", -1, (), "old", ("history", thing))
        self.fault("deed", 0, (), "old", ("history", (None,)))
        self.fault("settled", 2, ALL, "old", ("history", HARM))
        self.fault("put", 7, (), "old", ("history", OLD + (("put", "b"),)))
        self.fault("mode", 8, (), "old", ("history", HARM + (("seal",),)))

    def test_a_history_without_the_harm(self):
        self.fault("harm", -1, (), "old", ("history", ()))
        for harm in ("missed", "open"):
            self.fault("harm", -1, (), harm, ("history", HARM))
        self.fault("harm", -1, (), "old", ("history", OLD))

    def test_some_deed_of_any_page(self):
        history = read_deeds("keep b\nkeep a\nseal\npoint 2\nwrite b\nstop\nend\nstrike c\nseal\nkeep c")
        self.same([lets_harm((), harm, ("history", history)) for harm in ("missed", "open")], [True, True])
        self.fault("harm", -1, (), "old", ("history", history))
        self.same(lets_harm((), "old", ("history", HARM + (("end",), ("keep", "b"), ("seal",), ("stop",)))), True)
        other = read_deeds(history_text(harm_history((), "open")).replace(" a", " zz"))
        self.same(lets_harm((), "open", ("history", other)), True)


class Wrong(Case):
    def test_rules(self):
        for thing in ODD + (GUARDS, ["calm"]):
            self.refused(NotUsable("rule", -1), harm_paper, thing, None)
            self.refused(NotUsable("rule", -1), lets_harm, thing, None, None)

    def test_harms(self):
        for thing in ODD + (("old",), ["old"], HARMS, "Old", "calm"):
            self.refused(NotUsable("harm", -1), harm_paper, (), thing)
            self.refused(NotUsable("harm", -1), lets_harm, (), thing, None)
            self.refused(NotUsable("harm", -1), lets_harm, (), thing, ("history", HARM))


if __name__ == "__main__":
    unittest.main()
