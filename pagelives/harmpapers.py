"""Papers that tell whether a harm can happen."""

from pagelives.closures import all_stands
from pagelives.searches import harm_history


def harm_paper(rule, harm):
    """A paper with a history that has the harm, or with stands among which it does not happen."""
    history = harm_history(rule, harm)
    if history is None:
        return "stands", all_stands(rule)
    return "history", history
