"""Going from stand to stand by a rule; the arguments are not checked here."""

from pagelives.stands import FIRST_STAND
from pagelives.standwords import steps_by


def walk(rule, harms):
    """All stands to which FIRST_STAND leads, up to the first step that brings one of these harms.

    Returns a dict, with the stand before each stand and the word between, and
    the pair (stand, word) of that step, None without one. Stands come by the
    number of deeds that lead to them, so that each way told is a shortest one:
    what reaches the disk by itself is no deed.
    """
    before = {}
    now = [(FIRST_STAND, None, "")]
    while now:
        later = []
        while now:
            stand, past, word = now.pop()
            if stand in before:
                continue
            before[stand] = (past, word)
            for step, harm, behind in steps_by(rule, stand):
                if harm in harms:
                    return before, (stand, step)
                if step == "reach":
                    now.append((behind, stand, step))
                else:
                    later.append((behind, stand, step))
        now = later
    return before, None


def words_to_harm(rule, harms):
    """The words of the deeds of a shortest way to one of these harms, None if there is no way."""
    before, last = walk(rule, harms)
    if last is None:
        return None
    stand, word = last
    words = []
    while stand is not None:
        words.append(word)
        stand, word = before[stand]
    return [word for word in words[::-1] if word != "reach"]
