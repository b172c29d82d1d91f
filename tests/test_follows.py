"""[33]: what follows a stand."""

import inspect
import unittest

from pagelives.errors import NotUsable
from pagelives.follows import follows
from pagelives.kinds import GUARDS
from pagelives.stands import FIRST_STAND, is_stand
from tests.model import stands_by_form, told_follows, told_words
from tests.samples import ALL, ODD, OLD, Case

BOOLS = {"T": True, "F": False}


def stand(text):
    """The stand that a text writes, with T and F for the bools."""
    return tuple([BOOLS.get(word, word) for word in text.split(" ")])


class Words(Case):
    def step(self, text, word, behind, guards="", harm=""):
        """The word follows, leads to this stand, and is barred by just these guards."""
        here = stand(text)
        wanted = (word, harm, stand(behind))
        for guard in GUARDS:
            told = [triple for triple in follows((guard,), here) if triple[0] == word]
            self.same(told, [] if guard in guards.split() else [wanted])
        free = tuple([guard for guard in ALL if guard not in guards.split()])
        self.same([triple for triple in follows(free, here) if triple[0] == word], [wanted])
        self.same([triple for triple in follows((), here) if triple[0] == word], [wanted])
        if guards:
            self.same([triple for triple in follows(ALL, here) if triple[0] == word], [])

    def none(self, text, *words):
        """None of these words follows."""
        self.same([triple[0] for triple in follows((), stand(text)) if triple[0] in words], [])

    def test_examples(self):
        self.same([triple[0] for triple in follows((), FIRST_STAND)], ["keep", "plain", "stop", "strike"])
        self.same(follows((), ("goes", "plain", "left", "own")),
                  (("point", "", ("goes", "plain", "none", "own")), ("put", "old", ("goes", "plain", "done", "under"))))

    def test_keep(self):
        behind = "runs free kept F F T T loose T under under"
        self.step("runs free free T F F F none F under under", "keep", behind)
        self.step("runs free free T F F F none T under under", "keep", behind, "calm")
        self.step("runs free free F F F F none T under under", "keep", behind, "quiet calm")
        self.step("runs free free F F F F none F under under", "keep", behind, "quiet")
        self.step("runs kept free T T T F none F over under", "keep", "runs kept kept F T T T loose T over under")
        self.none("runs free kept F F T T loose T under due", "keep", "plain")
        self.none("runs plain plain T F F F none F under under", "keep", "plain")

    def test_plain(self):
        behind = "runs free plain F F F F none T under under"
        self.step("runs free free T F F F none F under under", "plain", behind)
        self.step("runs free free T F F F none T under under", "plain", behind, "calm")
        self.step("runs free free F F F F none T under under", "plain", behind, "quiet calm")
        self.step("runs free free F F F F none F under under", "plain", behind, "quiet")
        self.step("runs free free T T T F none F under under", "plain", "runs free plain F T T F none T under under",
                  "struck")
        self.step("runs free free F F T T none T under under", "plain", "runs free plain F F T T none T under under",
                  "quiet calm struck")
        self.step("runs free free T T F F none F under under", "plain", "runs free plain F T F F none T under under")

    def test_write(self):
        self.step("runs kept kept T T T F sure F due due", "write", "runs kept kept T T T T loose T due under")
        self.step("runs kept kept T F F F none F over over", "write", "runs kept kept T F T T loose T over under")
        self.step("runs plain plain T T T F none F own own", "write", "runs plain plain T T T F loose F own own")
        self.step("runs free plain F F F F sure T under own", "write", "runs free plain F F F F loose T under own")
        self.none("runs free free T F F F none F under under", "write", "free")

    def test_free(self):
        self.step("runs kept kept T T T F loose F due due", "free", "runs kept free F T T F none T due under", "settled")
        self.step("runs kept kept T T T F sure F due due", "free", "runs kept free F T T F none T due under")
        self.step("runs kept kept T T T F none F due due", "free", "runs kept free F T T F none T due under")
        self.step("runs plain plain T F F F loose F own own", "free", "runs plain free F F F F none T own under")
        # late stays where later is True, and becomes False where it is not.
        self.step("runs kept kept T T T T sure T over due", "free", "runs kept free F T T T none T over under")
        self.step("runs kept kept T T F T sure T over due", "free", "runs kept free F T F F none T over under")

    def test_strike(self):
        self.step("runs free free T T T F none F under under", "strike", "runs free free T T F F none T under under")
        self.step("runs free free F T T T none T under under", "strike", "runs free free F T F F none T under under")
        self.step("runs free plain F T T T loose T under own", "strike", "runs free plain F T F F loose T under own")
        self.step("runs kept kept T T T F sure F due due", "strike", "runs kept kept T T F F sure T due due", "dead")
        self.step("runs kept kept T T T T sure T over due", "strike", "runs kept kept T T F T sure T over due", "dead")

    def test_reach(self):
        self.step("runs kept kept T T T F loose F under under", "reach", "runs kept kept T T T F loose F due due")
        self.step("runs kept kept T T T T loose T under under", "reach", "runs kept kept T T T T loose T over due",
                  "ahead")
        self.step("runs kept kept F T T T loose T under under", "reach", "runs kept kept F T T T loose T over due",
                  "ahead")
        self.step("runs kept plain F T T F loose T under under", "reach", "runs kept plain F T T F loose T over own")
        self.step("runs free kept F F T T loose T under under", "reach", "runs free kept F F T T loose T under due",
                  "ahead")
        self.step("runs free plain F F T T loose T under under", "reach", "runs free plain F F T T loose T under own")
        self.step("runs plain plain T F F F loose F under under", "reach", "runs plain plain T F F F loose F own own")
        self.step("runs plain plain F F F F loose T own under", "reach", "runs plain plain F F F F loose T over own")
        self.step("runs plain kept F F T T loose T own under", "reach", "runs plain kept F F T T loose T over due",
                  "ahead")
        self.none("runs kept kept T T T F sure F under under", "reach")
        self.none("runs kept kept T T T F none F under under", "reach")

    def test_flush(self):
        self.step("runs kept kept T T T F loose F under under", "flush", "runs kept kept T T T F sure F due due")
        self.step("runs kept kept T T T F loose F due due", "flush", "runs kept kept T T T F sure F due due")
        self.step("runs kept kept T T T T loose T over due", "flush", "runs kept kept T T T T sure T over due", "ahead")
        self.step("runs free plain F F F T loose T under own", "flush", "runs free plain F F F T sure T under own")
        self.step("runs plain plain T F F F sure F under under", "flush", "runs plain plain T F F F sure F own own")
        self.none("runs kept kept T T T F none F under under", "flush")

    def test_seal(self):
        self.step("runs free kept F F T T loose T under due", "seal", "runs kept kept T T T F loose F due due")
        self.step("runs kept plain F T T T sure T over own", "seal", "runs plain plain T T T F sure F own own", "first")
        self.step("runs kept plain F T F F sure T over own", "seal", "runs plain plain T F F F sure F own own")
        self.step("runs kept free F T T F none T due under", "seal", "runs free free T T T F none F under under")
        self.none("runs kept kept T T T F loose F due due", "seal")
        self.none("runs free free F F F F none F under under", "seal")

    def test_point(self):
        self.step("runs kept kept T T T F sure F due due", "point", "runs kept kept T F F F sure F due due")
        self.step("runs kept kept T T T F none F due due", "point", "runs kept kept T F F F none F due due")
        self.step("runs kept kept T T T F loose F due due", "point", "runs kept kept T F F F loose F due due", "clean")
        self.step("runs kept kept T T T T loose T due under", "point", "runs kept kept T F T T loose T due under",
                  "clean level")
        self.step("runs kept kept F T T T loose T due under", "point", "runs kept kept F F T T loose T due under",
                  "whole level")
        self.step("runs kept free F T T F none T due under", "point", "runs kept free F F F F none T due under",
                  "whole level")
        self.step("runs kept plain F T T F loose T due own", "point", "runs kept plain F F F F loose T due own",
                  "whole level")
        self.step("runs free free T T T F none T under under", "point", "runs free free T F F F none T under under",
                  "level")
        self.step("runs plain plain T T T F loose F own own", "point", "runs plain plain T F F F loose F own own")
        self.step("runs free free T T F F none F under under", "point", "runs free free T F F F none F under under")
        self.none("runs kept kept T F T T sure T due due", "point")

    def test_stop(self):
        self.step("runs free free T F F F none F under under", "stop", "goes free none under")
        self.step("runs kept plain F T T T loose T over own", "stop", "goes kept left over")
        self.step("runs plain kept F F T T loose T own due", "stop", "goes plain none own")

    def test_put(self):
        self.step("goes kept left under", "put", "goes kept done due")
        self.step("goes kept left over", "put", "goes kept done due")
        self.step("goes free left under", "put", "goes free done under")
        self.step("goes plain left own", "put", "goes plain done under", harm="old")
        self.step("goes plain left over", "put", "goes plain done under")
        self.step("goes plain left under", "put", "goes plain done under")
        self.none("goes kept done due", "put")
        self.none("goes kept none due", "put")

    def test_point_while_it_goes(self):
        self.step("goes kept left due", "point", "goes kept none due", "walked fixed")
        self.step("goes kept done due", "point", "goes kept none due", "fixed")
        self.none("goes kept none due", "point")

    def test_stop_while_it_goes(self):
        self.step("goes kept done due", "stop", "goes kept left due")
        self.none("goes kept left due", "stop")
        self.none("goes kept none due", "stop")

    def test_end(self):
        self.step("goes kept done due", "end", "runs kept kept T T T F none F due due")
        self.step("goes free none under", "end", "runs free free T F F F none F under under")
        self.step("goes plain done own", "end", "runs plain plain T T T F none F own own")
        self.step("goes plain none under", "end", "runs plain plain T F F F none F under under")
        self.step("goes kept none under", "end", "runs kept kept T F F F none F under under", harm="missed")
        self.step("goes kept none over", "end", "runs kept kept T F F F none F over over", harm="open")
        self.step("goes plain none over", "end", "runs plain plain T F F F none F over over", harm="open")
        self.none("goes kept left due", "end")

    def test_what_leaves_the_stand_as_it_is(self):
        self.none("runs kept kept T T T F loose F due due", "reach")
        self.none("runs kept kept T T T F sure F due due", "flush")
        self.none("runs kept kept T T T T loose T over under", "write")
        self.none("runs plain plain T F F F loose F own own", "write", "reach")
        self.none("runs free free T F F F none T under under", "strike")
        self.none("runs kept kept T F F F sure T due due", "strike")
        self.step("runs free free T F F F none F under under", "strike", "runs free free T F F F none T under under")

    def test_ascending(self):
        here = stand("runs kept kept T T T F loose F under under")
        self.same([triple[0] for triple in follows((), here)],
                  ["flush", "free", "point", "reach", "stop", "strike", "write"])
        self.same([triple[0] for triple in follows(ALL, here)], ["flush", "reach", "stop", "write"])

    def test_all_stands_by_form(self):
        for n, here in enumerate(stands_by_form()):
            barring = {guard for _, _, guards in told_words(here).values() for guard in guards}
            for rule in ((), ALL, (ALL[n % 12],), ALL[n % 7:n % 11]) + tuple([(guard,) for guard in barring]):
                self.assertEqual(follows(rule, here), told_follows(rule, here))
            for _, _, behind in follows((), here):
                self.assertIs(is_stand(behind), True)


class Wrong(Case):
    def test_rules(self):
        for thing in ODD + (GUARDS, ["calm"]):
            self.refused(NotUsable("rule", -1), follows, thing, None)

    def test_stands(self):
        for thing in ODD + (OLD, list(FIRST_STAND), FIRST_STAND[:3] + (1,) + FIRST_STAND[4:], FIRST_STAND + (True,),
                            ("goes", "free", "none", "due"), (FIRST_STAND,)):
            self.refused(NotUsable("stand", -1), follows, (), thing)

    def test_names(self):
        self.assertEqual(str(inspect.signature(follows)), "(rule, stand)")
        self.same(follows(stand=("goes", "free", "left", "under"), rule=("fixed",)),
                  (("put", "", ("goes", "free", "done", "under")),))


if __name__ == "__main__":
    unittest.main()
