"""All errors: four families below one base class."""


class PageError(ValueError):
    """The base class of all errors."""


class PaperError(PageError):
    """The family of papers that are not accepted."""


class StoreError(PageError):
    """The family of arguments and deeds that cannot be used."""


class LiveError(PageError):
    """The family of live stores."""


class TextError(PageError):
    """The family of texts that cannot be read."""


class InvalidPaper(PaperError):
    """A checker does not accept a value: word tells why, at where."""

    def __init__(self, word, at):
        self.word = word
        self.at = at


class NotUsable(StoreError):
    """An argument is not as stated: word names it, at its element or -1."""

    def __init__(self, word, at):
        self.word = word
        self.at = at


class InvalidDeed(StoreError):
    """A deed is barred, word being the first reason."""

    def __init__(self, deed, word):
        self.deed = deed
        self.word = word


class InvalidEvent(LiveError):
    """An event is not possible."""

    def __init__(self, event, reason):
        self.event = event
        self.reason = reason


class NothingToUndo(LiveError):
    """There is no event to take back."""

    def __init__(self, steps):
        self.steps = steps


class Broken(LiveError):
    """One of several events is not possible, done coming before it."""

    def __init__(self, done):
        self.done = done


class InvalidText(TextError):
    """A line of a text cannot be read, field being the word."""

    def __init__(self, line, field):
        self.line = line
        self.field = field


class InvalidRow(TextError):
    """A text of one row cannot be read."""

    def __init__(self, row):
        self.row = row
