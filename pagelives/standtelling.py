"""What a stand tells of a page in a store; the arguments are not checked here."""

from pagelives.logtelling import PICTURES, TURNS, due_told, last_index, life_told, owner_told, put_index
from pagelives.storesteps import row_of


def stand_told(store, page, content):
    """The stand of a page at a content of its set."""
    if store[5] is None:
        return running_stand(store, page, content)
    return going_stand(store, page, content)


def running_stand(store, page, content):
    """The stand of a page while the store runs."""
    log, sealed, point, owners = store[:4]
    firm = log[:sealed]
    loose = log[sealed:]
    later = put_index(log, point, page) is not None
    return (
        "runs", life_told(firm, page), life_told(log, page), last_index(loose, page, TURNS) is None,
        put_index(firm, point, page) is not None, later, is_late(store, page, later),
        held_word(row_of(store[4], page)), page in [record[1] for record in loose],
        lies_told(firm, owners, page, content), lies_told(log, owners, page, content),
    )


def going_stand(store, page, content):
    """The stand of a page while the store goes."""
    log, _, point, owners, _, going = store
    put = "none"
    if put_index(log, point, page) is not None:
        put = "done" if page in going else "left"
    return "goes", life_told(log, page), put, lies_told(log, owners, page, content)


def is_late(store, page, later):
    """Whether the last picture of a page is unsealed, where that matters."""
    log, sealed = store[:2]
    if life_told(log, page) != "kept" and not later:
        return False
    return last_index(log[sealed:], page, PICTURES) is not None


def held_word(row):
    """The word for what is held by this row."""
    if row[1] is None:
        return "none"
    return "sure" if row[2] else "loose"


def lies_told(log, owners, page, content):
    """How a content stands to the life of its page by these records."""
    life = life_told(log, page)
    if life == "free":
        return "under"
    if life == "kept":
        return lies_beside(content, due_told(log, page))
    owner = owner_told(log, page)
    if owners[content] == owner:
        return "own"
    return lies_beside(content, owner)


def lies_beside(content, number):
    """The word for a content that is less than a number, the same, or greater."""
    if content == number:
        return "due"
    return "under" if content < number else "over"
