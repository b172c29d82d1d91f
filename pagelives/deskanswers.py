"""What a desk answers to questions of its live store."""

from pagelives.deedtexts import deed_text, record_text, rule_text
from pagelives.errors import InvalidRow
from pagelives.kinds import is_page
from pagelives.livereadings import event_read
from pagelives.livetexts import story_lines


def story_answer(live):
    """The lines of the events."""
    return lines_text(story_lines(live.story())[1:])


def log_answer(live):
    """The texts of the records."""
    return lines_text([record_text(record) for record in live.log_now])


def deeds_answer(live):
    """The texts of the deeds that are possible."""
    return lines_text([deed_text(deed) for deed in live.deeds_now])


def table_answer(live):
    """The lines of the pages."""
    return lines_text(live.table())


def rule_answer(live):
    """The text of the rule."""
    return rule_text(live.rule_now)


def careful_answer(live):
    """Whether deeds that bring a harm are refused."""
    return live.careful_now


def harms_answer(live):
    """All harms so far."""
    return words_text([f"{k}@{harm}@{page}" for k, harm, page in live.harms_now])


def left_answer(live):
    """What a stop leaves on each page."""
    return words_text([page_text(page, contents) for page, contents in live.left_now])


def tally_answer(live):
    """How many deeds have each word."""
    return words_text([f"{word}@{many}" for word, many in live.tally()])


ANSWERS = {
    "story": story_answer,
    "log": log_answer,
    "deeds": deeds_answer,
    "table": table_answer,
    "rule": rule_answer,
    "careful": careful_answer,
    "harms": harms_answer,
    "left": left_answer,
    "tally": tally_answer,
}


def answer_to(live, row):
    """The answer to a question; InvalidRow if the row is none."""
    if row in ANSWERS:
        answer = ANSWERS[row]
        return answer(live)
    word, _, rest = row.partition(" ")
    if word == "on" and is_page(rest):
        return numbers_text(live.set_on(rest))
    if word == "made" and is_page(rest):
        return numbers_text(live.made_since(rest))
    if word == "bars":
        event, _ = event_read(rest)
        if event is not None:
            return live.barred(event) or "-"
    raise InvalidRow(row)


def lines_text(lines):
    """Several lines in one, - without any."""
    return " / ".join(lines) or "-"


def words_text(words):
    """Several words with single spaces between, - without any."""
    return " ".join(words) or "-"


def numbers_text(numbers):
    """The words of numbers."""
    return words_text([str(number) for number in numbers])


def page_text(page, contents):
    """One word for a page and its set."""
    numbers = ",".join([str(number) for number in contents])
    return f"{page}@{numbers}"
