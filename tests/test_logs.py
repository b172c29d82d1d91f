"""[13], [14] and [15]: what a log tells, and what it puts."""

import inspect
import itertools
import unittest

from pagelives.errors import InvalidPaper, NotUsable
from pagelives.logchecker import lets_log
from pagelives.logs import due_in, life_in, owner_in, pages_in, put_in, puts_in, struck_in
from tests.samples import LOG, ODD, SIXTY, Case

LIFE_QUESTIONS = (life_in, owner_in, due_in)


def is_log(thing):
    """Whether lets_log accepts a value."""
    try:
        lets_log(thing)
    except InvalidPaper:
        return False
    return True


def small_logs(many):
    """All logs of so many records on the pages a and b, numbered from 1."""
    logs = []
    for words in itertools.product(("keep", "write", "plain", "free", "strike"), repeat=many):
        for pages in itertools.product("ab", repeat=many):
            log = []
            for k, (word, page) in enumerate(zip(words, pages)):
                log.append((word, page) if word in ("free", "strike") else (word, page, k + 1))
            if is_log(tuple(log)):
                logs.append(tuple(log))
    return logs


class Lives(Case):
    def test_example(self):
        told = [life_in(LOG, "a"), owner_in(LOG, "a"), due_in(LOG, "a"), due_in(LOG[:2], "a"), life_in(LOG, "c"),
                pages_in(LOG)]
        self.same(told, ["plain", 4, None, 2, "free", ("a", "b")])

    def test_along_a_log(self):
        told = [(life_in(LOG[:n], "a"), owner_in(LOG[:n], "a"), due_in(LOG[:n], "a")) for n in range(6)]
        self.same(told, [("free", 0, None), ("kept", 1, 1), ("kept", 1, 2), ("free", 0, None), ("plain", 4, None),
                         ("plain", 4, None)])
        self.same([life_in(LOG, "b"), owner_in(LOG, "b"), due_in(LOG, "b")], ["kept", 5, 5])

    def test_strikes_do_not_matter_to_the_due_content(self):
        log = (("keep", "a", 3), ("write", "a", 5), ("strike", "a"))
        self.same([due_in(log, "a"), put_in(log, 0, "a"), life_in(log, "a"), owner_in(log, "a")], [5, None, "kept", 3])

    def test_a_new_life(self):
        log = (("plain", "a", 1), ("free", "a"), ("keep", "a", SIXTY))
        self.same([life_in(log, "a"), owner_in(log, "a"), due_in(log, "a")], ["kept", SIXTY, SIXTY])

    def test_empty_log(self):
        self.same([life_in((), "a"), owner_in((), "a"), due_in((), "abcdefgh"), pages_in(())], ["free", 0, None, ()])

    def test_pages(self):
        self.same(pages_in((("strike", "zz"), ("keep", "b", 1), ("strike", "abcdefgh"), ("free", "b"))),
                  ("abcdefgh", "b", "zz"))

    def test_wrong_arguments(self):
        for ask in LIFE_QUESTIONS:
            for thing in ODD:
                self.refused(NotUsable("log", -1), ask, thing, "a")
                self.refused(NotUsable("log", -1), ask, thing, None)
                self.refused(NotUsable("page", -1), ask, LOG, thing)
            self.refused(NotUsable("log", -1), ask, list(LOG), "a")
            self.refused(NotUsable("log", -1), ask, LOG + LOG[:1], "a")
        for thing in ODD:
            self.refused(NotUsable("log", -1), pages_in, thing)

    def test_names(self):
        for ask in LIFE_QUESTIONS:
            self.assertEqual(list(inspect.signature(ask).parameters), ["log", "page"])
        self.assertEqual(list(inspect.signature(pages_in).parameters), ["log"])
        self.same(life_in(page="a", log=LOG), "plain")


class Puts(Case):
    def test_example(self):
        told = [put_in(LOG[:4], 0, "a"), put_in(LOG[:4], 2, "a"), puts_in(LOG, 0), struck_in(LOG, 0), struck_in(LOG, 1)]
        self.same(told, [2, None, (("b", 5),), (0, 1), (1,)])
        self.refused(NotUsable("point", -1), put_in, LOG, 7, "a")

    def test_points(self):
        told = [put_in(LOG[:4], point, "a") for point in range(5)]
        self.same(told, [2, 2, None, None, None])
        self.same([puts_in(LOG, 5), puts_in(LOG, 6), struck_in(LOG, 2), struck_in(LOG, 6)], [(("b", 5),), (), (), ()])

    def test_strikes_before_and_behind(self):
        self.same(put_in((("strike", "a"), ("keep", "a", 1)), 0, "a"), 1)
        self.same(put_in((("keep", "a", 1), ("strike", "a")), 0, "a"), None)
        self.same(put_in((("keep", "a", 1), ("strike", "b")), 0, "a"), 1)
        self.same(put_in((("keep", "a", 1), ("strike", "a"), ("write", "a", 2)), 0, "a"), 2)
        self.same(struck_in((("keep", "a", 1), ("strike", "a"), ("write", "a", 2)), 0), (0,))

    def test_an_elder_picture_goes_to_a_plain_page(self):
        log = (("keep", "a", 1), ("free", "a"), ("plain", "a", 2))
        self.same([life_in(log, "a"), put_in(log, 0, "a"), put_in(log, 1, "a")], ["plain", 1, None])

    def test_several_pages_ascending(self):
        log = (("keep", "z", 1), ("keep", "abcdefgh", 2), ("keep", "b", 3), ("write", "z", 4), ("strike", "b"))
        self.same(puts_in(log, 0), (("abcdefgh", 2), ("z", 4)))
        self.same(puts_in(log, 2), (("z", 4),))
        self.same(struck_in(log, 0), (2,))

    def test_empty_log(self):
        self.same([put_in((), 0, "a"), puts_in((), 0), struck_in((), 0)], [None, (), ()])

    def test_wrong_logs_and_points(self):
        for ask, rest in ((put_in, ("a",)), (puts_in, ()), (struck_in, ())):
            for thing in ODD:
                self.refused(NotUsable("log", -1), ask, thing, 0, *rest)
                self.refused(NotUsable("log", -1), ask, thing, None, *rest)
            for point in (7, -1, True, False, None, "0", SIXTY, (0,), [0]):
                self.refused(NotUsable("point", -1), ask, LOG, point, *rest)
            ask(LOG, 6, *rest)

    def test_wrong_pages(self):
        for thing in ODD:
            self.refused(NotUsable("page", -1), put_in, LOG, 0, thing)
        self.refused(NotUsable("point", -1), put_in, LOG, 7, None)

    def test_names(self):
        self.assertEqual(list(inspect.signature(put_in).parameters), ["log", "point", "page"])
        for ask in (puts_in, struck_in):
            self.assertEqual(list(inspect.signature(ask).parameters), ["log", "point"])
        self.same(put_in(page="b", point=0, log=LOG), 5)


class Consequences(Case):
    """[15], over all small logs."""

    def test_all_small_logs(self):
        for log in small_logs(4):
            self.check_parts(log)
            self.check_points(log)
            self.check_pictures(log)

    def check_parts(self, log):
        for n in range(len(log)):
            self.assertTrue(is_log(log[:n]))
            if log[n][0] == "strike":
                self.assertTrue(is_log(log[:n] + log[n + 1:]))

    def check_points(self, log):
        for point in range(len(log)):
            self.assertLessEqual(set(puts_in(log, point + 1)), set(puts_in(log, point)))
            self.assertLessEqual(set(struck_in(log, point + 1)), set(struck_in(log, point)))

    def check_pictures(self, log):
        for page in "ab":
            last = [k for k, record in enumerate(log) if record[0] in ("keep", "write") and record[1] == page][-1:]
            struck = [k for k in last if ("strike", page) in log[k:]]
            self.assertEqual(put_in(log, 0, page) is None, not last or bool(struck))
            self.same(dict(puts_in(log, 0)).get(page), put_in(log, 0, page))
            for k in last:
                self.assertEqual(k in struck_in(log, 0), k in struck)


if __name__ == "__main__":
    unittest.main()
