"""[25] and [26]: histories."""

import inspect
import unittest

from pagelives.deedbars import after_deed, barred_by
from pagelives.deedreadings import read_deeds
from pagelives.errors import InvalidPaper, NotUsable
from pagelives.historychecker import is_history, lets_history
from pagelives.kinds import GUARDS
from pagelives.logs import puts_in
from pagelives.stores import store_after
from tests.draws import short_histories
from tests.samples import ALL, LOG, ODD, OLD, Case


class Histories(Case):
    def fault(self, word, at, rule, thing):
        self.refused(InvalidPaper(word, at), lets_history, rule, thing)
        self.assertIs(is_history(rule, thing), False)

    def test_example(self):
        self.same([is_history(ALL, OLD), lets_history((), OLD)], [False, 7])
        self.fault("settled", 2, ALL, OLD)

    def test_beginnings(self):
        for n in range(len(OLD) + 1):
            self.same([is_history((), OLD[:n]), lets_history((), OLD[:n])], [True, n])

    def test_empty_history(self):
        self.same([is_history(ALL, ()), lets_history(ALL, ())], [True, 0])

    def test_shape(self):
        for thing in ODD + (list(OLD), "seal"):
            if not isinstance(thing, tuple):
                self.fault("shape", -1, (), thing)

    def test_deed(self):
        for thing in ODD + (LOG[0], ["seal"], ("point", 0), ("point", True), OLD):
            self.fault("deed", 0, (), (thing,))
            self.fault("deed", 2, (), OLD[:2] + (thing, None))

    def test_words(self):
        for word, text in (("mode", "put a"), ("page", "write a"), ("held", "flush a"), ("point", "point 1")):
            self.fault(word, 0, (), read_deeds(text))
            self.fault(word, 1, (), read_deeds("strike b\n" + text))
        self.fault("seal", 0, (), read_deeds("seal"))
        self.fault("put", 1, (), read_deeds("stop\nput a"))
        self.fault("end", 3, (), read_deeds("keep a\nseal\nstop\nend"))
        self.fault("mode", 1, (), read_deeds("stop\nseal"))

    def test_the_first_fault(self):
        self.fault("page", 1, (), (("keep", "a"), ("keep", "a"), None))
        self.fault("deed", 1, (), (("keep", "a"), None, ("keep", "a")))
        self.fault("quiet", 3, ("calm", "quiet", "struck"), OLD)
        self.fault("calm", 3, ("calm", "struck"), OLD)
        self.fault("struck", 3, ("first", "struck"), OLD)
        self.fault("first", 5, ("first",), OLD)

    def test_wrong_rules(self):
        for ask in (is_history, lets_history):
            for thing in ODD + (GUARDS, ["calm"], "calm"):
                self.refused(NotUsable("rule", -1), ask, thing, None)
            self.assertEqual(list(inspect.signature(ask).parameters), ["rule", "thing"])

    def test_long_histories(self):
        history = (("strike", "a"), ("seal",)) * 100
        self.same([is_history(ALL, history), lets_history(thing=history, rule=ALL)], [True, 200])


class Consequences(Case):
    """[26], over all short histories of one page and some of two."""

    def test_all_short_histories(self):
        for rule in ((), ("ahead",), ("calm", "settled"), ("fixed", "struck"), ALL):
            for history in short_histories(rule, 4, ("a",)) + short_histories(rule, 3, ("a", "b")):
                self.check_fewer_guards(rule, history)
                self.check_stop(rule, history)

    def check_fewer_guards(self, rule, history):
        sets = {row[0]: row[3] for row in store_after(rule, history)[4]}
        for k in range(len(rule)):
            fewer = rule[:k] + rule[k + 1:]
            self.assertTrue(is_history(fewer, history))
            for row in store_after(fewer, history)[4]:
                self.assertLessEqual(set(sets[row[0]]), set(row[3]))

    def check_stop(self, rule, history):
        stopped = after_deed(rule, history, ("stop",))
        log, _, point = store_after(rule, stopped)[:3]
        puts = [("put", page) for page, _ in puts_in(log, point)]
        ends = []
        for order in (puts, puts[::-1]):
            deeds = stopped + tuple(order)
            self.assertTrue(is_history(rule, deeds))
            self.same(barred_by(rule, deeds, ("end",)), ())
            ends.append(store_after(rule, deeds + (("end",),)))
        self.same(ends[0], ends[1])


if __name__ == "__main__":
    unittest.main()
