"""Points at which a stop behind a stretch brings no harm."""

from pagelives.stops import harms_behind
from pagelives.stretchtelling import usable_stores


def safe_points(rule, history):
    """The set of the points, from the present one on, with which a stop behind the stretch brings no harm."""
    store = usable_stores(rule, history)[-1]
    _, sealed, point = store[:3]
    return tuple([p for p in range(point, sealed + 1) if not harms_behind(rule, with_point(store, p))])


def farthest_point(rule, history):
    """The greatest of the safe points, None if there is none."""
    points = safe_points(rule, history)
    return points[-1] if points else None


def with_point(store, p):
    """The store with this point."""
    log, sealed, _, owners, rows, going = store
    return log, sealed, p, owners, rows, going
