"""Rows of deeds, possible or not, as values."""

from pagelives.deedreadings import read_deeds
from pagelives.deedtexts import history_text
from pagelives.kinds import is_deed, is_number, is_page, page_of
from pagelives.orders import ascending
from pagelives.usable import need, need_all


class Deeds:
    """A tuple of deeds by form; it never changes."""

    def __init__(self, deeds=()):
        need(isinstance(deeds, tuple), "deeds")
        need_all([is_deed(deed) for deed in deeds], "deeds")
        self._deeds = deeds

    @property
    def deeds_now(self):
        """The tuple of the deeds."""
        return self._deeds

    @property
    def pages_now(self):
        """The set of the pages that are named."""
        pages = [page_of(deed) for deed in self._deeds]
        return ascending([page for page in pages if page is not None])

    @classmethod
    def of(cls, *deeds):
        """The Deeds of these deeds."""
        return cls(deeds)

    @classmethod
    def read(cls, text):
        """The Deeds that a string writes, one deed in each line."""
        return cls(read_deeds(text))

    def only(self, *pages):
        """The Deeds of those deeds that name one of these pages, or none."""
        need_all([is_page(page) for page in pages], "pages")
        return Deeds(tuple([deed for deed in self._deeds if page_of(deed) is None or page_of(deed) in pages]))

    def __call__(self, page):
        need(is_page(page), "page")
        return tuple([deed for deed in self._deeds if page_of(deed) == page])

    def __getitem__(self, at):
        need(is_number(at) and at < len(self._deeds), "k")
        return self._deeds[at]

    def __contains__(self, x):
        return is_deed(x) and x in self._deeds

    def __len__(self):
        return len(self._deeds)

    def __bool__(self):
        return bool(self._deeds)

    def __iter__(self):
        return iter(self._deeds)

    def __str__(self):
        return str(history_text(self._deeds))

    def __eq__(self, other):
        return isinstance(other, Deeds) and self._deeds == other._deeds

    # A >= of two Deeds needs no method: Python asks this one, with the two exchanged.
    def __le__(self, other):
        if not isinstance(other, Deeds):
            return NotImplemented
        return self._deeds == other._deeds[:len(self._deeds)]

    def __add__(self, other):
        if isinstance(other, Deeds):
            return Deeds(self._deeds + other._deeds)
        need(is_deed(other), "other")
        return Deeds(self._deeds + (other,))
