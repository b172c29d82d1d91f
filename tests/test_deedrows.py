"""[20]: class Deeds."""

import unittest

from pagelives.deedrows import Deeds
from pagelives.errors import InvalidText, NotUsable
from tests.samples import ALL, LOG, ODD, OLD, SIXTY, Case

MIXED = (("keep", "b"), ("seal",), ("point", 1), ("strike", "a"), ("keep", "b"), ("put", "abcdefgh"), ("end",))
SOME = [Deeds(), Deeds(OLD[:1]), Deeds(OLD[:2]), Deeds(OLD), Deeds(MIXED), Deeds(OLD[1:])]


class Rows(Case):
    def test_example(self):
        row = Deeds(OLD)
        told = [len(row), row.pages_now, row("a")[1], row.only("b").deeds_now, Deeds(OLD[:2]) <= row,
                Deeds.read("seal") + ("end",) == Deeds.of(("seal",), ("end",))]
        self.same(told, [7, ("a",), ("free", "a"), (("seal",), ("seal",), ("stop",)), True, True])

    def test_making(self):
        self.same([Deeds().deeds_now, Deeds(deeds=MIXED).deeds_now], [(), MIXED])
        for thing in ODD + (list(OLD), Deeds()):
            if not isinstance(thing, tuple):
                self.refused(NotUsable("deeds", -1), Deeds, thing)
        for thing in ODD + (LOG[0], OLD, ["seal"]):
            self.refused(NotUsable("deeds", 0), Deeds, (thing,))
            self.refused(NotUsable("deeds", 2), Deeds, OLD[:2] + (thing, None))

    def test_of(self):
        self.same([type(Deeds.of()), Deeds.of().deeds_now, Deeds.of(*MIXED).deeds_now], [Deeds, (), MIXED])
        for thing in ODD + (LOG[0], OLD):
            self.refused(NotUsable("deeds", 0), Deeds.of, thing)
            self.refused(NotUsable("deeds", 1), Deeds.of, ("seal",), thing, None)

    def test_read(self):
        self.same([Deeds.read("").deeds_now, Deeds.read(text="keep a\npoint 3").deeds_now],
                  [(), (("keep", "a"), ("point", 3))])
        self.refused(InvalidText(1, 1), Deeds.read, "seal\npoint 0")
        self.refused(NotUsable("text", -1), Deeds.read, ("seal",))

    def test_it_never_changes(self):
        row = Deeds(OLD[:1])
        for name in ("deeds_now", "pages_now"):
            with self.assertRaises(AttributeError):
                setattr(row, name, ())
        longer = row
        longer += ("seal",)
        self.same([row.deeds_now, longer.deeds_now], [OLD[:1], OLD[:2]])
        with self.assertRaises(TypeError):
            row[0] = ("seal",)

    def test_pages(self):
        self.same([row.pages_now for row in SOME], [(), ("a",), ("a",), ("a",), ("a", "abcdefgh", "b"), ("a",)])
        self.same(Deeds.of(("point", 1), ("seal",)).pages_now, ())

    def test_items(self):
        row = Deeds(MIXED)
        self.same([row[k] for k in range(len(row))], list(MIXED))
        for k in (-1, 7, SIXTY, True, False, None, "0", (0,), [0], slice(0, 1)):
            self.refused(NotUsable("k", -1), lambda: row[k])
        self.refused(NotUsable("k", -1), lambda: Deeds()[0])

    def test_in(self):
        row = Deeds(MIXED)
        for deed in MIXED:
            self.assertIs(deed in row, True)
        for thing in ODD + (("point", True), ("point", 2), ["seal"], ("keep", "a"), ("stop",), row, MIXED):
            self.assertIs(thing in row, False)

    def test_counting_and_going_over(self):
        self.same([len(row) for row in SOME], [0, 1, 2, 7, 7, 6])
        self.same([bool(row) for row in SOME], [False, True, True, True, True, True])
        self.same(list(Deeds(MIXED)), list(MIXED))
        self.same(tuple(Deeds()), ())

    def test_str(self):
        self.same([str(row) for row in SOME[:3]], ["", "keep a", "keep a\nseal"])
        self.same(str(Deeds(MIXED)).split("\n")[2:4], ["point 1", "strike a"])

    def test_equal(self):
        for one in SOME:
            for two in SOME:
                self.assertIs(one == two, one.deeds_now == two.deeds_now)
                self.assertIs(one != two, one.deeds_now != two.deeds_now)
            for thing in ODD + (one.deeds_now, list(one.deeds_now), ()):
                self.assertIs(one == thing, False)
        self.assertTrue(Deeds(OLD) == Deeds(tuple(OLD)))

    def test_beginnings(self):
        for one in SOME:
            for two in SOME:
                begins = two.deeds_now[:len(one)] == one.deeds_now
                self.assertIs(one <= two, begins)
                self.assertIs(two >= one, begins)
        self.assertIs(Deeds(OLD) <= Deeds(OLD[:6]), False)
        with self.assertRaises(TypeError):
            Deeds() <= ()

    def test_plus(self):
        for one in SOME:
            for two in SOME:
                self.same((one + two).deeds_now, one.deeds_now + two.deeds_now)
            self.same((one + ("point", SIXTY)).deeds_now, one.deeds_now + (("point", SIXTY),))
            self.same(type(one + ("end",)), Deeds)
        for thing in ODD + (OLD, (), LOG[0], ALL, ["seal"]):
            self.refused(NotUsable("other", -1), lambda: Deeds() + thing)

    def test_only(self):
        row = Deeds(MIXED)
        self.same(type(row.only()), Deeds)
        self.same(row.only().deeds_now, (("seal",), ("point", 1), ("end",)))
        self.same(row.only("b", "zz", "b").deeds_now, MIXED[:3] + (("keep", "b"), ("end",)))
        self.same(row.only("a", "b", "abcdefgh").deeds_now, MIXED)
        for thing in ODD:
            self.refused(NotUsable("pages", 0), row.only, thing)
            self.refused(NotUsable("pages", 2), row.only, "a", "a", thing, None)

    def test_call(self):
        row = Deeds(MIXED)
        self.same([row("b"), row("a"), row("zz")], [(("keep", "b"), ("keep", "b")), (("strike", "a"),), ()])
        self.same(row(page="abcdefgh"), (("put", "abcdefgh"),))
        for thing in ODD:
            self.refused(NotUsable("page", -1), row, thing)


if __name__ == "__main__":
    unittest.main()
