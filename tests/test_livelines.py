"""[63] and [64]: lines of events and stories, written and read."""

import inspect
import itertools
import unittest

from pagelives.errors import InvalidEvent, InvalidText, NotUsable
from pagelives.kinds import GUARDS, is_page
from pagelives.livereadings import read_event, read_story
from pagelives.lives import Live
from pagelives.liveslogs import is_story, replayed
from pagelives.livetexts import event_line, story_lines
from tests.draws import Draws
from tests.lively import FORTY, HARMED, NO_EVENTS, SOME, as_events, behind, drawn_event
from tests.samples import ALL, ODD, OLD, SIXTY, Case

PAGED = ("keep", "plain", "write", "free", "strike", "flush", "put")
BARE = ("seal", "stop", "end")
WORDS = ("", "deed", "careful", "mark", "live", "on", "off", "-", "ahead,dead", "dead,ahead", "keep", "seal", "point",
         "a", "abcdefghi", "3", "0", "03", "a\n", "\n", "undo", "ahead,", "K", "point\n")


def wrong_word(line, begins):
    """The index of the first word of a line that cannot stand, the number of words if one is missing, or None."""
    words = line.split(" ")
    for k in range(len(words) + 1):
        may = stands(words[:k], begins)
        if k == len(words):
            return None if may is None else k
        if may is None or not may(words[k]):
            return k


def stands(before, begins):
    """What tells whether a word may stand behind these, None if no word may."""
    if begins:
        return dict(enumerate((is_one_of("live"), is_one_of("on", "off"), is_rule_word))).get(len(before))
    if not before:
        return is_one_of("deed", "careful", "mark")
    if before[0] != "deed":
        return {"careful": is_one_of("on", "off"), "mark": is_page}[before[0]] if len(before) == 1 else None
    if len(before) == 1:
        return is_one_of("point", *PAGED, *BARE)
    if len(before) == 2 and before[1] not in BARE:
        return is_number_word if before[1] == "point" else is_page
    return None


def is_one_of(*words):
    """What tells whether a word is one of these."""
    return lambda word: word in words


def is_number_word(word):
    """Whether a word is a number from 1 on, of at most sixty digits."""
    return 1 <= len(word) <= 60 and all(c in "0123456789" for c in word) and word[0] != "0"


def is_rule_word(word):
    """Whether a word is the text of a rule."""
    guards = word.split(",")
    return word == "-" or (set(guards) <= set(GUARDS) and guards == sorted(set(guards)))


class Lines(Case):
    def test_examples(self):
        told = [event_line(("deed", ("point", 3))), read_event("deed seal"),
                story_lines((("live", ("ahead", "dead"), "off"), ("mark", "a")))]
        self.same(told, ["deed point 3", ("deed", ("seal",)), ["live off ahead,dead", "mark a"]])
        self.refused(InvalidText(1, 2), read_story, ["live on -", "deed point 0"])

    def test_event_lines(self):
        wanted = ("deed keep a", "deed plain abcdefgh", "deed point 1", "deed point 1" + 59 * "0", "deed seal",
                  "deed stop", "deed end", "deed put zz", "deed strike b", "careful on", "careful off", "mark a",
                  "mark abcdefgh", "mark on", "mark deed")
        self.same(tuple([event_line(event) for event in SOME]), wanted)
        for event in SOME + as_events(HARMED) + (("deed", ("point", SIXTY)),):
            self.same(read_event(event_line(event)), event)
        for line in wanted:
            self.same(event_line(read_event(line)), line)

    def test_story_lines(self):
        for rule, text in (((), "-"), (("dead",), "dead"), (ALL, ",".join(ALL))):
            for careful in ("on", "off"):
                lines = story_lines((("live", rule, careful), *SOME))
                self.same(lines, [f"live {careful} {text}"] + [event_line(event) for event in SOME])
                self.same(read_story(lines), (("live", rule, careful), *SOME))
        self.same(read_story(["live off -"]), (("live", (), "off"),))
        self.same(story_lines((("live", (), "off"),)), ["live off -"])

    def test_what_is_no_event_or_story(self):
        for thing in NO_EVENTS:
            self.refused(NotUsable("event", -1), event_line, thing)
            self.refused(NotUsable("story", -1), story_lines, (("live", (), "off"), thing))
        for thing in ODD + ((), [("live", (), "off")], ("live", (), "off")):
            self.refused(NotUsable("story", -1), story_lines, thing)
        self.same([str(inspect.signature(call)) for call in (event_line, story_lines, read_event, read_story)],
                  ["(event)", "(story)", "(text)", "(lines)"])

    def test_what_is_no_text(self):
        for thing in ODD:
            if not isinstance(thing, str):
                self.refused(NotUsable("text", -1), read_event, thing)
                self.refused(NotUsable("lines", -1), read_story, [thing])
            if not isinstance(thing, list):
                self.refused(NotUsable("lines", -1), read_story, thing)


class Events(Case):
    def wrong(self, field, line):
        self.refused(InvalidText(0, field), read_event, line)
        self.refused(InvalidText(1, field), read_story, ["live on -", line])
        self.refused(InvalidText(2, field), read_story, ["live on -", "mark m", line, line])

    def test_first_words(self):
        for line in ("", " ", "undo", "Deed seal", "deeds", "seal", "keep a", "live off -", " deed seal", "deed\n",
                     "mark\na", "3", "\n", "-"):
            self.wrong(0, line)

    def test_deeds(self):
        self.wrong(1, "deed")
        for line in ("deed ", "deed  seal", "deed live a", "deed deed seal", "deed Seal", "deed seal\n", "deed mark a",
                     "deed reach", "deed 3", "deed -"):
            self.wrong(1, line)
        for line in ("deed keep", "deed point", "deed keep ", "deed keep A", "deed keep abcdefghi", "deed keep a1",
                     "deed seal a", "deed seal ", "deed seal seal", "deed point 0", "deed point 03", "deed point -1",
                     "deed point +1", "deed point a", "deed point ", "deed point 1" + 60 * "0", "deed keep a\n",
                     "deed point 3\n", "deed keep 3", "deed point 1_0"):
            self.wrong(2, line)
        for line in ("deed keep a ", "deed keep a b", "deed keep a  ", "deed point 3 4", "deed point 3 "):
            self.wrong(3, line)
        self.same(read_event("deed point " + 60 * "9"), ("deed", ("point", SIXTY)))

    def test_careful(self):
        for line in ("careful", "careful ", "careful On", "careful on\n", "careful -", "careful  on", "careful yes on"):
            self.wrong(1, line)
        for line in ("careful on ", "careful on off", "careful off  "):
            self.wrong(2, line)

    def test_marks(self):
        for line in ("mark", "mark ", "mark A", "mark abcdefghi", "mark a1", "mark a\n", "mark -", "mark  a"):
            self.wrong(1, line)
        for line in ("mark a ", "mark a b", "mark a  b"):
            self.wrong(2, line)

    def test_all_lines_of_some_words(self):
        for many in (1, 2, 3):
            for words in itertools.product(WORDS, repeat=many):
                self.check(" ".join(words))

    def check(self, line):
        """An event is read exactly if the line is one; so is the beginning of a story."""
        for begins, call, number in ((False, lambda: read_event(line), 0), (True, lambda: read_story([line]), 0),
                                     (False, lambda: read_story(["live off -", line])[1], 1)):
            field = wrong_word(line, begins)
            if field is not None:
                self.refused(InvalidText(number, field), call)
            elif begins:
                self.same(story_lines(call()), [line])
            else:
                self.same(event_line(call()), line)

    def test_words_changed(self):
        # Each line with a word left out, doubled, exchanged, or empty, or another one put in.
        lines = [event_line(event) for event in SOME] + ["live on -", "live off ahead,dead"]
        for line in lines:
            words = line.split(" ")
            for k in range(len(words) + 1):
                for word in WORDS:
                    self.check(" ".join(words[:k] + [word] + words[k:]))
                    self.check(" ".join(words[:k] + [word] + words[k + 1:]))
                self.check(" ".join(words[:k] + words[k + 1:]))
                self.check(" ".join(words[:k] + words[k:k + 1] * 2 + words[k + 1:]))
                self.check(" ".join(words[:k] + words[k:k + 2][::-1] + words[k + 2:]))


class Stories(Case):
    def wrong(self, line, field, lines):
        self.refused(InvalidText(line, field), read_story, lines)

    def test_first_lines(self):
        self.wrong(0, 0, [])
        for field, texts in enumerate((
            ("", "mark m", "Live on -", " live on -", "live\non -", "story", "deed seal"),
            ("live", "live ", "live -", "live On -", "live - on", "live  on -", "live on\n -", "live ahead on"),
            ("live on", "live on ", "live on off", "live off dead,ahead", "live on ahead,ahead", "live on ahead,",
             "live on ,", "live on ahead, dead", "live on -\n", "live on --", "live on -,ahead", "live on  -",
             "live on Ahead"),
            ("live on - ", "live on - -", "live off ahead dead", "live on ahead  "),
        )):
            for text in texts:
                self.wrong(0, field, [text])
                self.wrong(0, field, [text, ""])
        self.same(read_story(["live on " + ",".join(ALL)]), (("live", ALL, "on"),))

    def test_later_lines(self):
        self.wrong(1, 0, ["live on -", ""])
        self.wrong(1, 0, ["live on -", "live on -"])
        self.wrong(2, 0, ["live on -", "mark m", "live on -"])
        # The first line that is not possible is told, whatever stands behind it.
        self.wrong(1, 1, ["live on -", "mark", "", "x"])
        self.wrong(0, 0, ["mark m", "live on -"])

    def test_lines_changed(self):
        lines = story_lines(behind(*as_events(OLD[:3]), ("mark", "m"), ("careful", "on")).story())
        for k in range(len(lines)):
            left = lines[:k] + lines[k + 1:]
            twice = lines[:k + 1] + lines[k:]
            empty = lines[:k] + [""] + lines[k + 1:]
            turned = lines[:k] + lines[k:k + 2][::-1] + lines[k + 2:]
            self.wrong(k, 0, empty)
            if k == 0:
                self.wrong(0, 0, left)
                self.wrong(1, 0, twice)
                self.wrong(0, 0, turned)
            else:
                for some in (left, twice, turned):
                    self.same(story_lines(read_story(some)), some)

    def test_stories_of_forty_events(self):
        for live in (behind(*FORTY), behind(*as_events(OLD), *FORTY[:33], rule=("dead",))):
            lines = story_lines(live.story())
            self.assertEqual(len(lines), 41)
            self.same(read_story(lines), live.story())
            self.assertTrue(replayed(read_story(lines)) == live)
            self.refused(InvalidEvent(("mark", "x"), "full"), replayed, read_story(lines + ["mark x"]))

    def test_drawn_stories(self):
        draws = Draws(63)
        for _ in range(20):
            live = Live(draws.some_of(ALL), careful=draws.one_of(("on", "off")))
            for _ in range(30):
                event = drawn_event(draws, live)
                if live.barred(event) is None:
                    live.happen(event)
            lines = story_lines(live.story())
            self.same(read_story(lines), live.story())
            self.assertTrue(is_story(read_story(lines)))

    def test_a_story_with_events_that_are_not_possible(self):
        story = read_story(["live off -", "deed end", "mark m", "mark m", "careful off"])
        self.same(story, (("live", (), "off"), ("deed", ("end",)), ("mark", "m"), ("mark", "m"), ("careful", "off")))
        self.refused(InvalidEvent(("deed", ("end",)), "mode"), replayed, story)

    def test_a_list_is_returned_new(self):
        story = (("live", (), "off"), ("mark", "m"))
        lines = story_lines(story)
        lines.append("x")
        self.same([story_lines(story), len(story)], [["live off -", "mark m"], 2])
        given = ["live off -", "mark m"]
        read_story(given)
        self.same(given, ["live off -", "mark m"])


if __name__ == "__main__":
    unittest.main()
