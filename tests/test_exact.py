"""[9], (L1), (L2), (L5) and (L6): sets are exact, told by stores of which each page has one content on its disk."""

import unittest

from pagelives.deedbars import deeds_now
from pagelives.looks import set_on
from pagelives.stops import going_deeds
from pagelives.stores import store_after
from pagelives.stretches import stops_along
from tests.draws import short_stretches
from tests.samples import ALL, Case


class Disk:
    """The contents that some times of reaching the disk leave, tried one by one by the words of [5], [6] and [8]."""

    def __init__(self, rule):
        self.rule = rule
        self.log = []
        self.sealed = 0
        self.point = 0
        self.used = 0
        self.held = None
        self.kept = False
        self.disks = {0}

    def do(self, deed):
        """Do a deed of the page a; then what is held reaches the disk, or does not."""
        word = deed[0]
        if word in ("keep", "plain", "write"):
            self.make(word)
        if word in ("free", "strike"):
            self.log.append((word, None))
        if word == "free":
            self.held = None
        if word == "flush":
            self.disks = {self.held}
        if word == "seal":
            self.sealed = len(self.log)
        if word == "point":
            self.point = deed[1]
        if word == "stop":
            self.held, self.log = None, self.log[:self.sealed]
        if word == "put":
            self.disks = {[n for sort, n in self.log if sort in ("keep", "write")][-1]}
        self.reach()

    def make(self, word):
        """A new number: a life, a content, or both."""
        self.used += 1
        turns = [sort for sort, _ in self.log if sort in ("keep", "plain", "free")]
        kept = word == "keep" or turns[-1:] == ["keep"]
        if word != "write" or kept:
            self.log.append((word, self.used))
        if word != "plain":
            self.held, self.kept = self.used, kept

    def reach(self):
        """What is held may reach each of the disks."""
        if self.held is None:
            return
        firm = [n for _, n in self.log[:self.sealed]]
        if not self.kept or "ahead" not in self.rule or self.held in firm:
            self.disks = self.disks | {self.held}


def named(history):
    """Whether some deed names the page a."""
    return "a" in [part for deed in history for part in deed[1:]]


def histories(rule, many):
    """All histories by the rule with so many deeds, of the page a."""
    last = [()]
    for _ in range(many):
        last = [history + (deed,) for history in last for deed in deeds_now(rule, history, "a")]
    return last


class Exact(Case):
    def test_all_short_histories_of_one_page(self):
        for rule, many in (((), 5), (("ahead",), 5), (ALL, 6)):
            for history in histories(rule, many):
                disk = Disk(rule)
                for deed in history:
                    disk.do(deed)
                self.same(set_on(rule, history, "a"), tuple(sorted(disk.disks)))

    def test_some_long_histories(self):
        start = (("keep", "a"), ("seal",), ("write", "a"))
        for rule in ((), ("ahead",), ("ahead", "calm")):
            for history in histories(rule, 3):
                self.check(rule, start + (("stop",), ("put", "a"), ("end",), ("free", "a"), ("seal",)) + history)
                self.check(rule, start + (("seal",), ("write", "a")) + (("free", "a"), ("seal",)) + history)

    def check(self, rule, history):
        """Behind each beginning that is a history, the set is that of the disks."""
        disk = Disk(rule)
        for k, deed in enumerate(history):
            if deed not in deeds_now(rule, history[:k], "a"):
                return
            disk.do(deed)
            self.same(set_on(rule, history[:k + 1], "a"), tuple(sorted(disk.disks)))


class Stops(Case):
    def test_a_stop_at_each_moment(self):
        # (L6): what it leaves on the page is what some times of reaching the disk leave.
        for rule, many in (((), 5), (("ahead",), 5), (ALL, 6)):
            for history in short_stretches(rule, many, ("a",)):
                disk = Disk(rule)
                for deed in history + going_deeds(rule, history):
                    disk.do(deed)
                if history:
                    self.same(stops_along(rule, history)[-1], (("a", tuple(sorted(disk.disks))),) if named(history) else ())

    def test_stops_and_the_order_of_puts_change_nothing(self):
        start = (("keep", "a"), ("keep", "b"), ("seal",), ("write", "b"), ("plain", "c"), ("write", "c"), ("seal",))
        puts = (("put", "a"), ("put", "b"))
        wanted = store_after((), start + (("stop",),) + puts + (("end",),))
        for going in ((("stop",),) + puts[::-1], (("stop",), ("stop",)) + puts,
                      (("stop",), puts[0], ("stop",)) + puts, (("stop",),) + puts + (("stop",),) + puts[::-1]):
            self.same(store_after((), start + going + (("end",),)), wanted)


if __name__ == "__main__":
    unittest.main()
