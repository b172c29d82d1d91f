"""[30]: stores shown in lines."""

import inspect
import unittest

from pagelives.deedreadings import read_deeds
from pagelives.errors import NotUsable
from pagelives.kinds import GUARDS
from pagelives.storepictures import picture
from tests.samples import ODD, OLD, Case


def shown(text, rule=()):
    """The picture behind the history of these deeds, with commas between."""
    return picture(rule, read_deeds(text.replace(", ", "\n")))


class Pictures(Case):
    def test_example(self):
        self.same(picture((), OLD[:5]), ["runs 0 1 3", "a        plain   3 loose 0,1,3"])

    def test_empty_history(self):
        self.same(picture((), ()), ["runs 0 0 0"])
        self.same(shown("stop"), ["goes 0 0 0"])

    def test_first_line(self):
        self.same(shown("keep a, strike a, seal, point 1, strike b")[0], "runs 1 2 3")
        self.same(shown("keep a, strike a, seal, point 1, strike b, stop")[0], "goes 1 2 2")
        self.same(shown("keep a, strike a, seal, point 1, strike b, stop, end")[0], "runs 1 2 2")

    def test_lives(self):
        self.same(shown("keep a, plain b, strike c")[1:],
                  ["a        kept    1 loose 0,1", "b        plain   - -     0", "c        free    - -     0"])
        # By all records, also where the sealed ones tell otherwise.
        self.same(shown("keep a, seal, free a")[1:], ["a        free    - -     0,1"])
        self.same(shown("keep a, seal, free a, stop")[1:], ["a        kept    - -     0,1"])

    def test_held(self):
        self.same(shown("keep a, flush a")[1:], ["a        kept    1 sure  1"])
        self.same(shown("keep a, flush a, write a")[1:], ["a        kept    2 loose 1,2"])
        self.same(shown("keep a, flush a, stop")[1:], ["a        free    - -     1"])
        self.same(shown("keep a", ("ahead",))[1:], ["a        kept    1 loose 0"])

    def test_names_of_one_to_eight_letters_ascending(self):
        self.same(shown("keep zz, keep abcdefgh, keep b")[1:],
                  ["abcdefgh kept    2 loose 0,2", "b        kept    3 loose 0,3", "zz       kept    1 loose 0,1"])

    def test_numbers_of_several_digits(self):
        plain = (("plain", "a"),)
        write = (("write", "a"),)
        self.same(picture((), plain + write * 9 + (("flush", "a"),))[1:], ["a        plain  10 sure  10"])
        self.same(picture((), plain + write * 99 + (("flush", "a"),))[1:], ["a        plain 100 sure  100"])
        self.same(picture((), plain + write * 999 + (("flush", "a"),))[1:], ["a        plain 1000 sure  1000"])

    def test_each_call_gives_a_new_list(self):
        told = picture((), OLD)
        told.append("more")
        self.same(picture((), OLD), ["goes 0 3 3", "a        plain   - -     0,1,3"])


class Wrong(Case):
    def test_rules_and_histories(self):
        for thing in ODD + (GUARDS, ["calm"]):
            self.refused(NotUsable("rule", -1), picture, thing, None)
        for thing in ODD + (list(OLD), OLD + (("seal",),)):
            self.refused(NotUsable("history", -1), picture, (), thing)
        self.refused(NotUsable("history", -1), picture, ("settled",), OLD)

    def test_names(self):
        self.assertEqual(str(inspect.signature(picture)), "(rule, history)")
        self.same(picture(history=(), rule=()), ["runs 0 0 0"])


if __name__ == "__main__":
    unittest.main()
