"""[44] and [49]: papers spoilt at drawn places, told by the words of the points one by one."""

import itertools
import unittest

from pagelives.errors import InvalidPaper
from pagelives.harmchecker import lets_harm
from pagelives.kinds import HARMS, is_number, is_rule
from pagelives.rulechecker import lets_rules
from pagelives.rulepapers import rules_paper
from pagelives.standchecker import lets_stands
from pagelives.strikechecker import lets_strikes
from pagelives.strikes import strikes_in, strikes_paper
from tests.draws import Draws
from tests.model import models_along, stop_without
from tests.samples import ALL, OLD, Case

OTHERS = (None, True, 1, "a", (), [], ("dead",), "old", "missed", OLD, OLD + (("put", "a"),), (0,), (1,), (True,), 8,
          ("ahead",), (2, 3))
ALONG = ((), OLD[:3] + (("strike", "a"),) + OLD[3:6], OLD[:3] + (("strike", "a"), ("strike", "a")) + OLD[3:6])


def spoilt(draws, thing, deep=0):
    """A value with a part left out, doubled, exchanged or turned at a drawn place."""
    if not isinstance(thing, tuple) or not thing or deep == 4 or draws.below(8) == 0:
        return draws.one_of(OTHERS)
    k = draws.below(len(thing))
    how = draws.below(16)
    if how == 0:
        return thing[:k] + thing[k + 1:]
    if how == 1:
        return thing[:k] + thing[k:k + 1] + thing[k:]
    if how == 2:
        return thing[::-1]
    return thing[:k] + (spoilt(draws, thing[k], deep + 1),) + thing[k + 1:]


def by_size(things):
    """All sets of some of these things, by size, then ascending."""
    return [some for many in range(len(things) + 1) for some in sorted(itertools.combinations(things, many))]


def has_shape(thing, pairs):
    """Whether a value is a pair of a tuple, of pairs if so, and a tuple of triples."""
    if not isinstance(thing, tuple) or len(thing) != 2 or not all(isinstance(part, tuple) for part in thing):
        return False
    sizes = [(part, many) for parts, many in zip(thing, (2, 3)) for part in parts if pairs or many == 3]
    return all(isinstance(part, tuple) and len(part) == many for part, many in sizes)


def end_told(things, good, bad):
    """The error for the first set that is left, otherwise the least sets of good."""
    for some in by_size(things):
        if not any(set(one) <= set(some) for one in good) and not any(set(some) <= set(one) for one in bad):
            return "left", some
    return tuple(sorted({one for one in good if not any(set(other) < set(one) for other in good)}))


def accepts(call, *args, **named):
    """Whether a checker accepts a value."""
    try:
        call(*args, **named)
    except InvalidPaper:
        return False
    return True


def rules_told(thing, harms, guards, always):
    """What lets_rules returns, or the word and the place of its error, by the words of [44]."""
    if not has_shape(thing, True):
        return "shape", -1
    for k, (some, stands) in enumerate(thing[0]):
        if not is_rule(some) or not set(some) <= set(guards):
            return "set", (0, k)
        if not accepts(lets_stands, tuple(sorted({*some, *always})), stands, harms=harms):
            return "stands", (0, k)
    for k, (some, harm, history) in enumerate(thing[1]):
        if not is_rule(some) or not set(some) <= set(guards):
            return "set", (1, k)
        if harm not in harms:
            return "harm", (1, k)
        if not accepts(lets_harm, tuple(sorted({*some, *always})), harm, ("history", history)):
            return "history", (1, k)
    return end_told(guards, [part[0] for part in thing[0]], [part[0] for part in thing[1]])


def strikes_told(rule, history, thing):
    """What lets_strikes returns, or the word and the place of its error, by the words of [49]."""
    models = models_along(rule, history)
    strikes = [k for k, record in enumerate(models[-1].records) if record[0] == "strike"]

    def is_set(some):
        return (isinstance(some, tuple) and all(is_number(k) and k in strikes for k in some)
                and list(some) == sorted(set(some)))

    def old_at(n, some):
        others = [k for k in strikes if k not in some and k < len(models[n].records)]
        return [page for harm, page in stop_without(models[n], others)[1] if harm == "old"]

    if not has_shape(thing, False):
        return "shape", -1
    for k, some in enumerate(thing[0]):
        if not is_set(some):
            return "set", (0, k)
        if any(old_at(n, some) for n in range(len(history) + 1)):
            return "old", (0, k)
    for k, (some, n, page) in enumerate(thing[1]):
        if not is_set(some):
            return "set", (1, k)
        if not is_number(n) or n > len(history) or page not in old_at(n, some):
            return "stop", (1, k)
    return end_told(strikes, thing[0], [part[0] for part in thing[1]])


class Spoilt(Case):
    def check(self, wanted, call, *args, **named):
        """The call returns this, or raises InvalidPaper with these fields; the first word of it is returned."""
        try:
            told = call(*args, **named)
        except InvalidPaper as error:
            told = (error.word, error.at)
        self.same(told, wanted)
        return wanted[0] if wanted and isinstance(wanted[0], str) else "accepted"

    def test_rules_papers(self):
        draws = Draws(441)
        found = set()
        for _ in range(100):
            choice = {"harms": draws.one_of((("old",), ("missed",), ("open", "old"), HARMS)),
                      "guards": draws.some_of(ALL, 4)[:4], "always": draws.some_of(ALL)}
            paper = thing = rules_paper(**choice)
            for _ in range(8):
                thing = spoilt(draws, thing if draws.below(4) == 0 else paper)
                found.add(self.check(rules_told(thing, **choice), lets_rules, thing, **choice))
        self.assertEqual(found, {"accepted", "shape", "set", "stands", "harm", "history", "left"})

    def test_strikes_papers(self):
        draws = Draws(491)
        found = set()
        for n in range(100):
            rule = draws.some_of(ALL, 8)
            history = draws.stretch(rule, 14, ("a", "b")[:1 + n % 2], ALONG)
            if len(strikes_in(rule, history)) <= 4:
                paper = thing = strikes_paper(rule, history)
                for _ in range(8):
                    thing = spoilt(draws, thing if draws.below(4) == 0 else paper)
                    found.add(self.check(strikes_told(rule, history, thing), lets_strikes, rule, history, thing))
        self.assertEqual(found, {"accepted", "shape", "set", "old", "stop", "left"})


if __name__ == "__main__":
    unittest.main()
