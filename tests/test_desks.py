"""[65]: desks."""

import inspect
import unittest

from pagelives.deedtexts import deed_text, record_text, rule_text
from pagelives.desks import Desk
from pagelives.errors import InvalidEvent, InvalidRow, NothingToUndo, NotUsable, PageError
from pagelives.kinds import GUARDS
from pagelives.lives import Live
from pagelives.liveslogs import replayed
from pagelives.livetexts import event_line, story_lines
from pagelives.looks import set_on
from pagelives.stops import left_by_stop
from pagelives.storepictures import picture
from pagelives.stores import store_after
from tests.draws import Draws
from tests.lively import FORTY, HARMED, SOME, as_events, drawn_event
from tests.samples import ALL, ODD, OLD, Case

QUESTIONS = ("story", "log", "deeds", "table", "rule", "careful", "harms", "left", "tally", "on a", "on zz")
NO_ROWS = (
    "", " ", "\n", "-", "undo ", " undo", "undo\n", "Undo", "undo undo", "undo deed seal", "story ", " story", "story\n",
    "stories", "log ", "log a", "logs", "deeds ", "deed", "deed ", "deed  seal", "deed seal ", "deed seal\n", "seal",
    "deed point 0", "deed point 01", "deed keep A", "deed keep a b", "table ", "tables", "table\n", "rule ", "rule dead",
    "rules", "careful ", "careful yes", "careful on ", "careful on\n", "careful\n", "harms ", "harm", "harms old",
    "left ", "left a", "tally ", "tally keep", "on", "on ", "on A", "on a b", "on  a", "on a ", "on a\n", "on abcdefghi",
    "on a1", " on a", "on\na", "made", "made ", "made A", "made m n", "made  m", "made m ", "made abcdefghi", "made m\n",
    "bars", "bars ", "bars undo", "bars  deed seal", "bars deed seal ", "bars deed", "bars bars deed seal", "bars story",
    "bars live on -", "bars deed seal\n", "bars\ndeed seal", "barsdeed seal", "bars mark", "bars deed point 0",
    "live", "live on", "live on ", "live on - ", "live on -\n", "live on dead,ahead", "live - on", "live on ahead dead",
    "Live on -", "live on -\nmark m", "live on -\ndeed seal", "live  on -", "mark", "mark ", "mark A", "mark m n",
    "mark m\n", "deed keep a\ndeed seal", "counts", "say", "None", "undo\nundo", "holds a",
)


def said(desk, *rows):
    """The answers to these rows."""
    return [desk.say(row) for row in rows]


def led(*events, rule=(), careful="off"):
    """A desk to which these events were said."""
    desk = Desk()
    said(desk, f"live {careful} {rule_text(rule)}", *[event_line(event) for event in events])
    return desk


def line_of(numbers):
    """Numbers with single spaces between, - without any."""
    return " ".join([str(n) for n in numbers]) or "-"


def answers(live):
    """What a desk with such a live store answers to the questions, told by functions for its rule and history."""
    rule, history = live.rule_now, live.history_now
    left = [f"{page}@{','.join([str(n) for n in contents])}" for page, contents in left_by_stop(rule, history)]
    words = [deed[0] for deed in history]
    return [
        " / ".join(story_lines(live.story())[1:]) or "-",
        " / ".join([record_text(record) for record in store_after(rule, history)[0]]) or "-",
        " / ".join([deed_text(deed) for deed in live.deeds_now]) or "-",
        " / ".join(picture(rule, history)[1:]) or "-",
        rule_text(rule),
        live.careful_now,
        " ".join([f"{k}@{harm}@{page}" for k, harm, page in live.harms_now]) or "-",
        " ".join(left) or "-",
        " ".join([f"{word}@{words.count(word)}" for word in sorted(set(words))]) or "-",
        line_of(set_on(rule, history, "a")),
        line_of(set_on(rule, history, "zz")),
    ]


class Rows(Case):
    def test_example(self):
        desk = Desk(("ahead",))
        self.same(said(desk, "deed keep a", "on a", "deed seal", "on a", "left", "bars deed free b", "undo", "rule"),
                  ["1", "0", "2", "0 1", "a@1", "page", "deed seal", "ahead"])

    def test_where_nothing_is_there(self):
        self.same(said(Desk(), *QUESTIONS), ["-", "-", "stop", "-", "-", "off", "-", "-", "-", "0", "0"])
        desk = Desk()
        self.refused(NothingToUndo(0), desk.say, "undo")
        self.refused(NotUsable("name", -1), desk.say, "made m")
        self.same(said(desk, "mark m", "made m", "bars deed keep a", "bars mark n"), ["0", "-", "-", "-"])

    def test_each_row(self):
        desk = led(("mark", "m"), *as_events(HARMED), ("careful", "on"), rule=("dead",))
        self.same(said(desk, *QUESTIONS[:6]), [
            "mark m / deed keep a / deed seal / deed free a / deed plain a / deed write a / deed seal / deed stop / "
            "deed put a / careful on",
            "keep a 1 / free a / plain a 2",
            "end / point 1 / point 2 / point 3 / stop",
            "a        plain   - -     1",
            "dead",
            "on",
        ])
        self.same(said(desk, *QUESTIONS[6:]), [
            "7@old@a", "a@1", "free@1 keep@1 plain@1 put@1 seal@2 stop@1 write@1", "1", "0"])
        self.same(said(desk, "made m", "bars deed end", "bars deed put a", "bars deed seal", "bars careful on",
                       "bars careful off", "bars mark m", "bars mark n"),
                  ["1 2 3", "-", "put", "mode", "same", "-", "twice", "-"])

    def test_several_things(self):
        text = "keep b,keep a,seal,point 2,write b,keep zz,plain abcdefgh,write abcdefgh"
        desk = led(*as_events([tuple([int(word) if word.isdigit() else word for word in row.split(" ")])
                               for row in text.split(",")]))
        self.same(said(desk, "left", "on b", "on abcdefgh", "tally", "table", "log"), [
            "a@0,2 abcdefgh@0,6 b@0,1,3 zz@0,4", "0 1 3", "0 6", "keep@3 plain@1 point@1 seal@1 write@2",
            "a        kept    2 loose 0,2 / abcdefgh plain   6 loose 0,6 / b        kept    3 loose 0,1,3 / "
            "zz       kept    4 loose 0,4", "keep b 1 / keep a 2 / write b 3 / keep zz 4 / plain abcdefgh 5"])
        self.same(said(desk, "deed stop", "deed end", "harms"), ["9", "10", "9@missed@a 9@missed@b 9@open@b"])

    def test_events(self):
        desk = Desk()
        self.same(said(desk, "deed keep a", "careful on", "mark m", "deed seal", "careful", "careful off", "careful"),
                  ["1", "1", "1", "2", "on", "2", "off"])
        self.same(said(desk, "undo", "undo", "undo", "undo", "undo"),
                  ["careful off", "deed seal", "mark m", "careful on", "deed keep a"])
        self.refused(NothingToUndo(0), desk.say, "undo")

    def test_errors_of_the_live_store(self):
        desk = led(*as_events(OLD), ("mark", "m"), ("careful", "on"))
        for row, event, reason in (
            ("deed end", ("deed", ("end",)), "end"), ("deed put a", ("deed", ("put", "a")), "harm"),
            ("deed keep a", ("deed", ("keep", "a")), "mode"), ("careful on", ("careful", "on"), "same"),
            ("mark m", ("mark", "m"), "twice"), ("deed point 4", ("deed", ("point", 4)), "point"),
        ):
            self.refused(InvalidEvent(event, reason), desk.say, row)
            self.same(desk.say("bars " + row), reason)
        self.refused(NotUsable("name", -1), desk.say, "made n")
        full = led(*FORTY)
        self.refused(InvalidEvent(("mark", "m"), "full"), full.say, "mark m")
        self.same(said(full, "bars mark m", "undo", "mark m", "bars mark n"), ["full", "careful off", "0", "full"])

    def test_a_new_live_store(self):
        desk = led(*as_events(OLD), ("mark", "m"))
        self.same(said(desk, "live on ahead,dead", "rule", "careful", "story", "on a", "left", "tally", "harms", "log"),
                  ["ok", "ahead,dead", "on", "-", "0", "-", "-", "-", "-"])
        self.refused(NothingToUndo(0), desk.say, "undo")
        self.refused(NotUsable("name", -1), desk.say, "made m")
        self.refused(InvalidEvent(("careful", "on"), "same"), desk.say, "careful on")
        self.same(said(desk, "deed keep a", "bars deed flush a", "live off -", "rule", "careful", "story"),
                  ["1", "ahead", "ok", "-", "off", "-"])
        self.same(said(desk, "live off " + ",".join(ALL), "rule"), ["ok", ",".join(ALL)])

    def test_a_careful_one_is_led_to_no_harm(self):
        desk = led(*as_events(OLD), careful="on")
        self.same(said(desk, "bars deed put a", "deeds", "harms"), ["harm", "point 1 / point 2 / point 3 / stop", "-"])
        self.refused(InvalidEvent(("deed", ("put", "a")), "harm"), desk.say, "deed put a")
        self.same(said(desk, "careful off", "deed put a", "harms"), ["7", "8", "7@old@a"])

    def test_rows_that_are_almost_rows(self):
        for desk in (Desk(), led(("mark", "m"), *as_events(OLD[:5]))):
            before = said(desk, *QUESTIONS)
            for row in NO_ROWS:
                self.refused(InvalidRow(row), desk.say, row)
            self.same(said(desk, *QUESTIONS), before)

    def test_long_numbers(self):
        desk = Desk()
        many = "1" + 59 * "0"
        self.refused(InvalidEvent(("deed", ("point", int(many))), "point"), desk.say, "deed point " + many)
        self.same(desk.say("bars deed point " + many), "point")
        self.refused(InvalidRow("deed point 0" + many), desk.say, "deed point 0" + many)
        self.refused(InvalidRow("deed point 0" + many[:59]), desk.say, "deed point 0" + many[:59])


class Desks(Case):
    def test_making(self):
        self.assertEqual(str(inspect.signature(Desk)), "(rule=())")
        self.assertEqual(str(inspect.signature(Desk().say)), "(row)")
        self.same([Desk(rule=("dead",)).say(row="rule"), Desk().say("rule"), Desk(ALL).say("careful")],
                  ["dead", "-", "off"])
        for thing in ODD + (GUARDS, ["calm"], "calm"):
            self.refused(NotUsable("rule", -1), Desk, thing)

    def test_counts(self):
        desk = Desk()
        self.same(desk.counts(), (0, 0))
        said(desk, *QUESTIONS)
        many = len(QUESTIONS)
        self.same(desk.counts(), (many, many))
        for row in ("undo", "made m", "deed end", "undone", "bars x", "on A"):
            with self.assertRaises(PageError):
                desk.say(row)
            many = many + 1
            self.same(desk.counts(), (many, many))
        # A new live store leaves the counts of the desk as they are.
        said(desk, "live on -", "deed keep a", "undo", "bars mark m")
        self.same(desk.counts(), (many + 4, many + 4))
        self.same(desk.counts(), (many + 4, many + 4))

    def test_two_desks_beside_one_another(self):
        one, two = Desk(("ahead",)), Desk()
        said(one, "deed keep a", "mark m", "live on dead", "deed keep b")
        self.same(said(two, "story", "rule", "careful"), ["-", "-", "off"])
        self.same(said(one, "story", "rule", "careful"), ["deed keep b", "dead", "on"])
        self.same([one.counts(), two.counts()], [(7, 7), (3, 3)])

    def test_what_is_no_string(self):
        for thing in ODD:
            if not isinstance(thing, str):
                self.refused(NotUsable("row", -1), Desk().say, thing)

    def test_agreement(self):
        draws = Draws(65)
        for _ in range(20):
            live = Live(draws.some_of(ALL, 5), careful=draws.one_of(("on", "off")))
            desk = Desk(live.rule_now)
            self.same(desk.say(story_lines(live.story())[0]), "ok")
            for _ in range(25):
                event = drawn_event(draws, live)
                reason = live.barred(event)
                self.same(desk.say("bars " + event_line(event)), reason or "-")
                if reason is None:
                    self.same(desk.say(event_line(event)), str(live.happen(event)))
                else:
                    self.refused(InvalidEvent(event, reason), desk.say, event_line(event))
                if draws.below(8) == 0 and len(live.story()) > 1:
                    self.same(desk.say("undo"), event_line(live.undo()))
                self.same(said(desk, *QUESTIONS), answers(live))
                for _, name in [event for event in live.story()[1:] if event[0] == "mark"]:
                    self.same(desk.say("made " + name), line_of(live.made_since(name)))
            # The desk's live store is the one that its rows tell.
            again = replayed(live.story())
            self.same(said(desk, *["bars " + event_line(event) for event in SOME]),
                      [again.barred(event) or "-" for event in SOME])


if __name__ == "__main__":
    unittest.main()
