"""[31] and [32]: stands."""

import inspect
import unittest

from pagelives.deedreadings import read_deeds
from pagelives.errors import NotUsable
from pagelives.kinds import GUARDS
from pagelives.looks import set_on
from pagelives.stands import FIRST_STAND, is_stand, stand_of, stands_of
from tests.draws import short_histories
from tests.model import Model, stands_by_form
from tests.samples import ALL, ODD, OLD, SIXTY, Case

GOING = ("goes", "plain", "left", "own")
KEPT = ("runs", "kept", "kept", True, True, True, False, "loose", False, "under", "due")


def with_part(stand, k, part):
    """The stand with another part at this place."""
    return stand[:k] + (part,) + stand[k + 1:]


class Forms(Case):
    def test_first_stand(self):
        self.same(FIRST_STAND, ("runs", "free", "free", True, False, False, False, "none", False, "under", "under"))

    def test_all_stands_by_form(self):
        for stand in stands_by_form():
            self.assertIs(is_stand(stand), True, stand)

    def test_each_other_word_or_bool_is_none(self):
        # Each tuple with a word or bool of stands at each place is by form just if it is listed.
        words = ("runs", "goes", "free", "kept", "plain", "none", "sure", "loose", "left", "done", "under", "due",
                 "over", "own", True, False)
        listed = set(stands_by_form())
        for stand in (FIRST_STAND, KEPT, GOING, ("goes", "free", "none", "under"), ("goes", "kept", "done", "due"),
                      with_part(KEPT, 1, "free"), with_part(with_part(KEPT, 2, "plain"), 10, "own")):
            for k in range(len(stand)):
                for word in words:
                    other = with_part(stand, k, word)
                    self.assertIs(is_stand(other), other in listed, other)

    def test_lies_fit_the_life(self):
        table = (("free", ("under",)), ("kept", ("under", "due", "over")), ("plain", ("under", "own", "over")))
        for life, fitting in table:
            for lies in ("under", "due", "over", "own"):
                self.assertIs(is_stand(("goes", life, "none", lies)), lies in fitting)
                for k in (1, 2):
                    stand = with_part(with_part(with_part(KEPT, 1, "kept"), k, life), k + 8, lies)
                    stand = with_part(stand, 7, "none")
                    self.assertIs(is_stand(stand), lies in fitting, stand)

    def test_nothing_is_held_on_a_free_page(self):
        for held in ("none", "sure", "loose"):
            self.assertIs(is_stand(with_part(FIRST_STAND, 7, held)), held == "none")
            # A page that is free by the sealed records alone may hold something.
            self.assertIs(is_stand(with_part(with_part(KEPT, 1, "free"), 7, held)), True)

    def test_odd_values(self):
        for thing in ODD + ((), OLD, GOING[:3], GOING + (True,), FIRST_STAND[:10], FIRST_STAND + (True,),
                            list(FIRST_STAND), list(GOING), (FIRST_STAND,), "goes"):
            self.assertIs(is_stand(thing), False, thing)

    def test_odd_parts(self):
        for thing in ODD:
            for stand in (FIRST_STAND, KEPT, GOING):
                for k in range(len(stand)):
                    other = with_part(stand, k, thing)
                    self.assertIs(is_stand(other), isinstance(thing, bool) and isinstance(stand[k], bool), other)

    def test_true_is_not_one(self):
        for k in (3, 4, 5, 6, 8):
            for part in (0, 1, None, "", "True"):
                self.assertIs(is_stand(with_part(KEPT, k, part)), False)


class Told(Case):
    def told(self, text, *wanted, page="a", rule=()):
        """The stands at all contents of the set, as words with blanks between; T and F are the bools."""
        history = read_deeds(text.replace(", ", "\n")) if text else ()
        bools = {"T": True, "F": False}
        stands = [tuple([bools.get(word, word) for word in row.split(" ")]) for row in wanted]
        contents = set_on(rule, history, page)
        self.same([stand_of(rule, history, page, content) for content in contents], stands)
        self.same(stands_of(rule, history, page), tuple(sorted(set(stands))))
        for stand in stands:
            self.assertIs(is_stand(stand), True)

    def test_example(self):
        self.same(stand_of((), OLD[:1], "a", 1),
                  ("runs", "free", "kept", False, False, True, True, "loose", True, "under", "due"))
        self.same([stands_of((), OLD, "a"), stands_of((), OLD, "b")],
                  [(("goes", "plain", "left", "own"), ("goes", "plain", "left", "under")),
                   (("goes", "free", "none", "under"),)])

    def test_first(self):
        self.same([stand_of((), (), "a", 0), stands_of(ALL, (), "a")], [FIRST_STAND, (FIRST_STAND,)])
        self.told("keep b, seal", "runs free free T F F F none F under under")
        self.told("", "runs free free T F F F none F under under")

    def test_firm_and_now(self):
        self.told("keep a", "runs free kept F F T T loose T under under", "runs free kept F F T T loose T under due")
        self.told("keep a, seal", "runs kept kept T T T F loose F under under",
                  "runs kept kept T T T F loose F due due")
        self.told("plain a", "runs free plain F F F F none T under under")
        self.told("plain a, seal", "runs plain plain T F F F none F under under")
        self.told("plain a, seal, free a", "runs plain free F F F F none T under under")
        self.told("keep a, flush a, seal, free a, plain a", "runs kept plain F T T F none T due under")

    def test_same_and_open(self):
        self.told("strike a", "runs free free T F F F none T under under")
        self.told("keep a, flush a, seal, write a, flush a", "runs kept kept T T T T sure T over due")
        self.told("plain a, free a", "runs free free F F F F none T under under")
        self.told("keep b, seal, keep c", "runs free free T F F F none F under under")
        self.told("plain a, seal, write a, flush a, strike a", "runs plain plain T F F F sure T own own")

    def test_put_and_later(self):
        self.told("keep a, flush a, seal, strike a", "runs kept kept T T F F sure T due due")
        self.told("keep a, flush a, strike a, seal", "runs kept kept T F F F sure F due due")
        self.told("keep a, flush a, seal, point 1", "runs kept kept T F F F sure F due due")
        self.told("keep a, flush a, seal, point 1, write a, flush a", "runs kept kept T F T T sure T over due")
        self.told("keep a, flush a, strike a, seal, write a, flush a", "runs kept kept T F T T sure T over due")
        self.told("keep a, flush a, seal, strike a, write a, flush a", "runs kept kept T T T T sure T over due")

    def test_late(self):
        self.told("keep a, flush a, strike a", "runs free kept F F F T sure T under due")
        self.told("keep a, flush a, free a", "runs free free F F T T none T under under")
        self.told("keep a, flush a, free a, strike a", "runs free free F F F F none T under under")
        self.told("keep a, flush a, strike a, free a", "runs free free F F F F none T under under")
        self.told("keep a, flush a, seal, free a", "runs kept free F T T F none T due under")
        self.told("keep a, flush a, free a, plain a", "runs free plain F F T T none T under under")

    def test_held(self):
        self.told("keep a, seal, stop, put a, end", "runs kept kept T T T F none F due due")
        self.told("plain a, write a, flush a", "runs free plain F F F F sure T under own")
        self.told("plain a, write a, flush a, write a", "runs free plain F F F F loose T under own",
                  "runs free plain F F F F loose T under own")

    def test_lies(self):
        self.told("keep a, seal, write a", *["runs kept kept T T T T loose T " + lies
                                             for lies in ("under under", "due under", "over due")])
        self.told("keep a, seal, stop, put a, end, free a, seal, plain a, write a, seal",
                  *["runs plain plain T T T F loose F " + lies for lies in ("under under", "own own")])
        self.told("plain a, seal, write a, free a, plain a, write a",
                  *["runs plain plain F F F F loose T " + lies for lies in ("under under", "own under", "over own")])
        self.told("plain a, seal, write a, free a, keep a",
                  *["runs plain kept F F T T loose T " + lies for lies in ("under under", "own under", "over due")])

    def test_going(self):
        self.told("stop", "goes free none under")
        self.told("keep a, seal, write a, stop", "goes kept left under", "goes kept left due", "goes kept left over")
        self.told("keep a, seal, write a, stop, put a", "goes kept done due")
        self.told("keep a, seal, write a, stop, put a, stop", "goes kept left due")
        self.told("keep a, seal, stop, put a, point 1", "goes kept none due")
        self.told("keep a, flush a, strike a, seal, stop", "goes kept none due")
        self.told("keep a, flush a, free a, seal, stop", "goes free left under")
        self.told("plain a, seal, free a, keep a, flush a, stop", "goes plain none over")
        self.told("keep b, keep a, flush a, seal, stop, put b", "goes kept left due")

    def test_contents_with_one_stand(self):
        history = read_deeds("keep a\nseal\nwrite a\nwrite a\nstop")
        self.same(set_on((), history, "a"), (0, 1, 2, 3))
        self.same(stands_of((), history, "a"),
                  tuple([("goes", "kept", "left", lies) for lies in ("due", "over", "under")]))

    def test_ahead(self):
        self.told("keep a", "runs free kept F F T T loose T under under", rule=("ahead",))

    def test_all_short_histories(self):
        for rule, many, pages in (((), 4, ("a",)), ((), 3, ("a", "b")), (ALL, 5, ("a",))):
            for history in short_histories(rule, many, pages):
                model = Model(rule)
                for deed in history:
                    model.do(deed)
                for page in pages:
                    self.same(stands_of(rule, history, page), tuple(sorted(model.stands(page))))


class Wrong(Case):
    def test_rules_and_histories(self):
        for thing in ODD + (GUARDS, ["calm"]):
            self.refused(NotUsable("rule", -1), stand_of, thing, None, None, None)
            self.refused(NotUsable("rule", -1), stands_of, thing, None, None)
        for thing in ODD + (list(OLD), OLD + (("seal",),)):
            self.refused(NotUsable("history", -1), stand_of, (), thing, None, None)
            self.refused(NotUsable("history", -1), stands_of, (), thing, None)
        self.refused(NotUsable("history", -1), stand_of, ("settled",), OLD, "a", 0)
        self.refused(NotUsable("history", -1), stands_of, ("settled",), OLD, "a")

    def test_pages(self):
        for thing in ODD:
            self.refused(NotUsable("page", -1), stand_of, (), OLD, thing, None)
            self.refused(NotUsable("page", -1), stands_of, (), OLD, thing)

    def test_contents(self):
        for thing in (2, 4, -1, SIXTY, True, False, None, "0", (0,), [0], ()):
            self.refused(NotUsable("content", -1), stand_of, (), OLD, "a", thing)
        for thing in (1, 3, True, False):
            self.refused(NotUsable("content", -1), stand_of, (), OLD, "b", thing)
        self.refused(NotUsable("content", -1), stand_of, ("ahead",), OLD[:1], "a", 1)
        self.refused(NotUsable("content", -1), stand_of, (), (("keep", "a"), ("flush", "a")), "a", 0)

    def test_names(self):
        self.assertEqual(str(inspect.signature(is_stand)), "(thing)")
        self.assertEqual(str(inspect.signature(stand_of)), "(rule, history, page, content)")
        self.assertEqual(str(inspect.signature(stands_of)), "(rule, history, page)")
        self.same(stand_of(content=0, page="a", history=(), rule=()), FIRST_STAND)
        self.same(is_stand(thing=FIRST_STAND), True)


if __name__ == "__main__":
    unittest.main()
