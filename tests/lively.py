"""What tests of live stores, stories and desks have in common."""

from pagelives.deedbars import deeds_now
from pagelives.lives import Live
from tests.samples import ODD, OLD

HARMED = OLD + (("put", "a"),)
FORTY = tuple([("careful", ("on", "off")[k % 2]) for k in range(40)])
SEAL = ("deed", ("seal",))
SOME = (
    ("deed", ("keep", "a")), ("deed", ("plain", "abcdefgh")), ("deed", ("point", 1)), ("deed", ("point", 10 ** 59)),
    ("deed", ("seal",)), ("deed", ("stop",)), ("deed", ("end",)), ("deed", ("put", "zz")), ("deed", ("strike", "b")),
    ("careful", "on"), ("careful", "off"), ("mark", "a"), ("mark", "abcdefgh"), ("mark", "on"), ("mark", "deed"),
)
NO_EVENTS = ODD + (
    (), ("deed",), ("deed", None), ("deed", ("keep",)), ("deed", ["seal"]), ("deed", "seal"), ("deed", ("seal",), 1),
    ("deed", ("point", 0)), ("deed", ("point", True)), ("deed", ("keep", "A")), ("deed", ("live", "a")),
    ["deed", ("seal",)], ("Deed", ("seal",)), (("deed",), ("seal",)), ("seal",), ("keep", "a"), ("deed", ()),
    ("careful",), ("careful", "On"), ("careful", True), ("careful", None), ("careful", ("on",)), ("careful", "on", "on"),
    ("careful", ""), ("mark",), ("mark", ""), ("mark", "A"), ("mark", "abcdefghi"), ("mark", 1), ("mark", ("a",)),
    ("mark", "a", "b"), ("mark", "a1"), ("undo", "a"), ("live", (), "off"), (1, "a"), (True, "on"), (None, "a"),
    (["mark"], "a"), "mark a",
)


def as_events(deeds):
    """The events of these deeds."""
    return tuple([("deed", deed) for deed in deeds])


def behind(*events, rule=(), careful="off"):
    """A new live store to which these events happened one by one."""
    live = Live(rule, careful=careful)
    for event in events:
        live.happen(event)
    return live


def told(live):
    """All that a live store tells, but for counts and the names of its moments."""
    pages = [row[0] for row in live.store_now[4]]
    return [
        live.rule_now, live.history_now, live.store_now, live.log_now, live.careful_now, live.deeds_now, live.harms_now,
        live.left_now, live.tally(), live.table(), live.story(), len(live), [live[page] for page in pages],
        [live.set_on(page) for page in ("a", "zz")], ["a" in live, "zz" in live],
        [live.barred(event) for event in SOME],
    ]


def drawn_event(draws, live, pages=("a", "b")):
    """An event that looks drawn, possible more often than not."""
    kind = draws.below(12)
    if kind == 0:
        return ("careful", draws.one_of(("on", "off")))
    if kind == 1:
        return ("mark", draws.one_of(("m", "n", "moment")))
    if kind == 2:
        return draws.one_of(SOME)
    deed = draws.one_of(deeds_now(live.rule_now, live.history_now, *pages))
    if deed[0] in ("stop", "strike", "point"):
        deed = draws.one_of(deeds_now(live.rule_now, live.history_now, *pages))
    return ("deed", deed)
