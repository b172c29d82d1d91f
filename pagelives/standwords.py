"""What can follow a stand, by which word, and the guards that bar it; the arguments are not checked here.

The parts of a stand are kept in a dict under the names that the document
gives them, so that what a word leaves as it is need not be named.
"""

RUNNING = ("firm", "now", "same", "put", "later", "late", "held", "open", "lies", "lies_now")
GOING = ("firm", "put", "lies")


def steps_by(rule, stand):
    """The triples (word, harm, stand behind it) of what can follow by the rule.

    Those that leave the stand as it is, and bring no harm, are left out.
    """
    steps = [step for step in all_steps(stand) if step[1] != "" or step[2] != stand]
    return [step[:3] for step in steps if not any([guard in rule for guard in step[3]])]


def all_steps(stand):
    """For each word that can follow, (word, harm, stand behind it, guards that bar it)."""
    if stand[0] == "runs":
        parts = dict(zip(RUNNING, stand[1:]))
        return [running_step(parts, word) for word in running_words(parts)]
    parts = dict(zip(GOING, stand[1:]))
    return [(word, going_harm(parts, word), behind_going(parts, word), going_guards(parts, word))
            for word in going_words(parts)]


def running_words(parts):
    """The words that can follow while the store runs, whatever guards say."""
    words = ["keep", "plain"] if parts["now"] == "free" else ["write", "free"]
    words = words + ["strike", "stop"]
    if parts["held"] != "none":
        words = words + ["flush"]
    if parts["held"] == "loose":
        words = words + ["reach"]
    if parts["open"]:
        words = words + ["seal"]
    if parts["put"]:
        words = words + ["point"]
    return words


def running_step(parts, word):
    """What follows by this word while the store runs, as in all_steps."""
    if word == "stop":
        return word, "", ("goes", parts["firm"], "left" if parts["put"] else "none", parts["lies"]), ()
    changes = changed_by(parts, word)
    behind = [changes.get(name, parts[name]) for name in RUNNING]
    return word, "", ("runs", *behind), running_guards(parts, word)


def changed_by(parts, word):
    """The parts that the word changes while the store runs."""
    if word == "keep":
        return {"now": "kept", "same": False, "later": True, "late": True, "held": "loose", "open": True,
                "lies_now": "under"}
    if word == "plain":
        return {"now": "plain", "same": False, "held": "none", "open": True, "lies_now": "under"}
    if word == "write":
        return changed_by_write(parts)
    if word == "free":
        return {"now": "free", "same": False, "late": parts["late"] and parts["later"], "held": "none",
                "open": True, "lies_now": "under"}
    if word == "strike":
        return {"later": False, "late": parts["late"] and parts["now"] == "kept", "open": True}
    if word == "reach":
        return changed_by_reach(parts)
    if word == "flush":
        changes = changed_by_reach(parts)
        return {**changes, "held": "sure"}
    if word == "seal":
        return {"firm": parts["now"], "put": parts["later"], "lies": parts["lies_now"], "same": True,
                "late": False, "open": False}
    return {"put": False, "later": parts["later"] and parts["late"]}


def changed_by_write(parts):
    """The parts that a write changes: only a picture has a record."""
    if parts["now"] == "kept":
        return {"held": "loose", "later": True, "late": True, "open": True, "lies_now": "under"}
    return {"held": "loose"}


def changed_by_reach(parts):
    """The parts that change where what is held is the content on the disk from now on."""
    lies_now = "due" if parts["now"] == "kept" else "own"
    if parts["firm"] == "free":
        return {"lies_now": lies_now, "lies": "under"}
    if parts["firm"] == "plain" and parts["same"]:
        return {"lies_now": lies_now, "lies": "own"}
    if parts["firm"] == "kept" and parts["same"] and not parts["late"]:
        return {"lies_now": lies_now, "lies": "due"}
    return {"lies_now": lies_now, "lies": "over"}


def running_guards(parts, word):
    """The guards that bar the word while the store runs."""
    kept = parts["now"] == "kept"
    loose = parts["held"] == "loose"
    pairs = {
        "keep": (("quiet", not parts["same"]), ("calm", parts["open"])),
        "plain": (("quiet", not parts["same"]), ("calm", parts["open"]), ("struck", parts["later"])),
        "free": (("settled", kept and loose),),
        "strike": (("dead", kept),),
        "reach": (("ahead", kept and parts["late"]),),
        "flush": (("ahead", kept and parts["late"]),),
        "seal": (("first", parts["now"] == "plain" and parts["later"]),),
        "point": (("clean", kept and parts["same"] and loose),
                  ("whole", parts["firm"] == "kept" and not parts["same"]),
                  ("level", parts["open"])),
    }
    return tuple([guard for guard, bars in pairs.get(word, ()) if bars])


def going_words(parts):
    """The words that can follow while the store goes, whatever guards say."""
    if parts["put"] == "left":
        return ["put", "point", "stop"]
    if parts["put"] == "done":
        return ["point", "stop", "end"]
    return ["stop", "end"]


def going_harm(parts, word):
    """The harm that the word brings while the store goes, "" without one."""
    if word == "put" and parts["firm"] == "plain" and parts["lies"] == "own":
        return "old"
    if word == "end" and parts["lies"] == "over":
        return "open"
    if word == "end" and parts["firm"] == "kept" and parts["lies"] == "under":
        return "missed"
    return ""


def behind_going(parts, word):
    """The stand behind the word while the store goes."""
    firm, put, lies = parts["firm"], parts["put"], parts["lies"]
    if word == "put":
        return "goes", firm, "done", "due" if firm == "kept" else "under"
    if word == "point":
        return "goes", firm, "none", lies
    if word == "stop":
        return "goes", firm, "none" if put == "none" else "left", lies
    done = put == "done"
    return "runs", firm, firm, True, done, done, False, "none", False, lies, lies


def going_guards(parts, word):
    """The guards that bar the word while the store goes."""
    if word != "point":
        return ()
    return ("walked", "fixed") if parts["put"] == "left" else ("fixed",)
