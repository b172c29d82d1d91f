"""Arguments that are not as stated."""

from pagelives.errors import NotUsable


def need(holds, word):
    """Refuse the argument that word names unless what is asked of it holds."""
    if not holds:
        raise NotUsable(word, -1)


def need_all(tests, word):
    """Refuse the first element for which what is asked does not hold."""
    for k, holds in enumerate(tests):
        if not holds:
            raise NotUsable(word, k)
