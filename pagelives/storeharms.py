"""The harms that deeds bring; the arguments are not checked here."""

from pagelives.logtelling import due_told, life_told, owner_told
from pagelives.orders import ascending
from pagelives.storesteps import row_of, store_behind


def harms_brought(rule, store, deeds):
    """For each of these deeds, done one by one from this store on, the set of the pairs (harm, page) that it brings."""
    brought = []
    for deed in deeds:
        brought.append(harms_at(store, deed))
        store = store_behind(rule, store, deed)
    return brought


def harms_at(store, deed):
    """The set of the pairs (harm, page) that a possible deed brings."""
    if deed[0] == "put":
        return harms_at_put(store, deed[1])
    if deed[0] == "end":
        return ascending([(harm, row[0]) for row in store[4] for harm in harms_at_end(store, row)])
    return ()


def harms_at_put(store, page):
    """The set of the pairs (harm, page) that a put to this page brings."""
    log, owners = store[0], store[3]
    life = owner_told(log, page)
    if life_told(log, page) == "plain" and life in [owners[n] for n in row_of(store[4], page)[3]]:
        return (("old", page),)
    return ()


def harms_at_end(store, row):
    """The list of the harms that an end brings to the page of this row."""
    log, owners = store[0], store[3]
    page, contents = row[0], row[3]
    if life_told(log, page) == "kept":
        due = due_told(log, page)
        missed = ["missed"] if contents[0] < due else []
        return missed + (["open"] if contents[-1] > due else [])
    life = owner_told(log, page)
    if life_told(log, page) == "plain" and any([n > life and owners[n] != life for n in contents]):
        return ["open"]
    return []
