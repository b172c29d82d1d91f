"""[18]: texts that are written."""

import inspect
import unittest

from pagelives.deedtexts import deed_text, history_text, record_text, rule_text
from pagelives.errors import NotUsable
from pagelives.kinds import GUARDS
from tests.samples import ALL, LOG, ODD, OLD, SIXTY, Case


class Texts(Case):
    def test_example(self):
        told = [deed_text(("point", 3)), history_text(OLD[:2]), rule_text(("ahead", "dead"))]
        self.same(told, ["point 3", "keep a\nseal", "ahead,dead"])

    def test_deeds(self):
        for word in ("keep", "plain", "write", "free", "strike", "flush", "put"):
            self.same(deed_text((word, "abcdefgh")), word + " abcdefgh")
        for word in ("seal", "stop", "end"):
            self.same(deed_text((word,)), word)
        self.same(deed_text(("point", SIXTY)), "point " + "9" * 60)

    def test_records(self):
        told = [record_text(record) for record in LOG]
        self.same(told, ["keep a 1", "write a 2", "free a", "plain a 4", "strike a", "keep b 5"])
        self.same(record_text(("keep", "z", SIXTY)), "keep z " + "9" * 60)

    def test_rules(self):
        self.same([rule_text(()), rule_text(ALL), rule_text(("calm",))], ["-", ",".join(ALL), "calm"])

    def test_histories(self):
        self.same([history_text(()), history_text((("end",),)), history_text((("end",), ("point", 1), ("end",)))],
                  ["", "end", "end\npoint 1\nend"])

    def test_wrong_arguments(self):
        for ask, word in ((deed_text, "deed"), (record_text, "record"), (rule_text, "rule")):
            for thing in ODD:
                self.refused(NotUsable(word, -1), ask, thing)
        self.refused(NotUsable("deed", -1), deed_text, LOG[0])
        self.refused(NotUsable("record", -1), record_text, ("keep", "a"))
        self.refused(NotUsable("record", -1), record_text, ("seal",))
        self.refused(NotUsable("rule", -1), rule_text, GUARDS)
        self.refused(NotUsable("rule", -1), rule_text, ["calm"])

    def test_wrong_histories(self):
        for thing in ODD:
            self.refused(NotUsable("history", -1), history_text, thing)
            self.refused(NotUsable("history", -1), history_text, (("seal",), thing))
        self.refused(NotUsable("history", -1), history_text, list(OLD))
        self.refused(NotUsable("history", -1), history_text, ("seal",))

    def test_names(self):
        names = [list(inspect.signature(ask).parameters) for ask in (deed_text, record_text, rule_text, history_text)]
        self.assertEqual(names, [["deed"], ["record"], ["rule"], ["history"]])


if __name__ == "__main__":
    unittest.main()
