"""What several tests use: the document's examples, odd values, and a strict comparison."""

import unittest

OLD = (("keep", "a"), ("seal",), ("free", "a"), ("plain", "a"), ("write", "a"), ("seal",), ("stop",))
ALL = ("ahead", "calm", "clean", "dead", "first", "fixed", "level", "quiet", "settled", "struck", "walked", "whole")
LOG = (("keep", "a", 1), ("write", "a", 2), ("free", "a"), ("plain", "a", 4), ("strike", "a"), ("keep", "b", 5))
SIXTY = int("9" * 60)


def nested(many, inner):
    """Tuples and lists in turn around a value."""
    for k in range(many):
        inner = [inner] if k % 2 else (inner,)
    return inner


def parts(things):
    """All sets of some of these things."""
    found = [()]
    for thing in things:
        found = found + [some + (thing,) for some in found]
    return found


# Values of all kinds; none of them is a page, a deed, a record, a rule, a log or a history.
ODD = (
    None, True, False, 0, 1, -1, SIXTY, -SIXTY,
    "", "A", "a1", "a b", "a\n", "abcdefghi", "-",
    [], ["a"], ["keep", "a"], [("keep", "a")], [[]], ([],), ((),), (None,), (1,), (True,),
    ("",), ("keep",), (["keep"], "a"), ("keep", ["a"]), ("keep", None, 1), ("a", "keep"),
    nested(30, 1), nested(29, "seal"), (("seal", ()),), [("seal",)],
)


class Case(unittest.TestCase):
    """A test case that tells True from 1 and a list from a tuple."""

    def same(self, got, wanted):
        """The two values are equal, and of equal kinds throughout."""
        self.assertEqual(repr(got), repr(wanted))

    def refused(self, error, call, *args, **named):
        """The call raises just this error: its class and its fields."""
        with self.assertRaises(type(error)) as caught:
            call(*args, **named)
        self.assertIs(type(caught.exception), type(error))
        self.same(vars(caught.exception), vars(error))
