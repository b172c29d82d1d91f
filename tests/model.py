"""A second telling of [3] to [7], [31], [33] and [47], written apart from the program."""

import copy


class Model:
    """A store with any pages, told deed by deed: what lies on its pages, the harms, and the stands."""

    def __init__(self, rule):
        self.ahead = "ahead" in rule
        self.records = []
        self.sealed = 0
        self.point = 0
        self.done = None
        self.life_of = [0]
        self.disks = {}
        self.held = {}

    def disk(self, page):
        return self.disks.get(page, {0})

    def told(self, page, many=None):
        """What the first records tell of a page: life, its number, due content, last picture, what is put."""
        life, number, due, last, put = "free", 0, None, None, None
        for k, (word, name, n) in enumerate(self.records[:many]):
            if name != page:
                continue
            if word in ("keep", "write"):
                due = n
                last = k
                put = k if k >= self.point else None
            if word == "strike":
                put = None
            if word in ("keep", "plain"):
                life, number = {"keep": "kept", "plain": "plain"}[word], n
            if word == "free":
                life, number = "free", 0
        return life, number, due if life == "kept" else None, last, put

    def do(self, deed):
        """Do a possible deed; the set of the harms (harm, page) that it brings."""
        word, name = deed[0], deed[1] if len(deed) == 2 else None
        harms = {("old", name)} if word == "put" and self.is_old(name) else set()
        if word == "end":
            harms = {(harm, page) for page in self.disks for harm in self.harms_at_end(page)}
        if word in ("keep", "plain", "write"):
            self.make(word, name)
        elif word in ("free", "strike"):
            self.records.append((word, name, None))
            if word == "free":
                self.held.pop(name, None)
            self.disks.setdefault(name, {0})
        elif word == "flush":
            self.disks[name] = {self.held[name][0]}
            self.held[name] = (self.held[name][0], True)
        elif word == "put":
            self.disks[name] = {self.records[self.told(name)[4]][2]}
            self.done.add(name)
        else:
            self.move(word, name)
        self.reach()
        return harms

    def make(self, word, page):
        number = len(self.life_of)
        life, owner = self.told(page)[:2]
        self.life_of.append(owner if word == "write" else number)
        if word != "write" or life == "kept":
            self.records.append((word, page, number))
        if word != "plain":
            self.held[page] = (number, False)
        self.disks.setdefault(page, {0})

    def move(self, word, p):
        if word == "seal":
            self.sealed = len(self.records)
        if word == "point":
            self.point = p
        if word == "stop":
            self.held, self.records, self.done = {}, self.records[:self.sealed], set()
        if word == "end":
            self.held, self.done = {}, None

    def reach(self):
        sealed = [n for _, _, n in self.records[:self.sealed]]
        for page, (number, _) in self.held.items():
            if not self.ahead or self.told(page)[0] != "kept" or number in sealed:
                self.disks[page] = self.disk(page) | {number}

    def is_old(self, page):
        life, number = self.told(page)[:2]
        return life == "plain" and any(self.life_of[n] == number for n in self.disk(page))

    def harms_at_end(self, page):
        life, number, due = self.told(page)[:3]
        disk = self.disk(page)
        if life == "kept" and min(disk) < due:
            yield "missed"
        if life == "kept" and max(disk) > due:
            yield "open"
        if life == "plain" and any(n > number and self.life_of[n] != number for n in disk):
            yield "open"

    def lies(self, page, content, many):
        life, number, due = self.told(page, many)[:3]
        if life == "free":
            return "under"
        if life == "plain" and self.life_of[content] == number:
            return "own"
        beside = due if life == "kept" else number
        return "due" if content == beside else ("under", "over")[content > beside]

    def stand(self, page, content):
        """The stand by the words of [31]."""
        now, _, _, last, put = self.told(page)
        firm, _, _, _, put_firm = self.told(page, self.sealed)
        lies_now = self.lies(page, content, None)
        if self.done is not None:
            word = "none" if put is None else "done" if page in self.done else "left"
            return ("goes", now, word, lies_now)
        words = [word for word, name, _ in self.records[self.sealed:] if name == page]
        same = not {"keep", "plain", "free"} & set(words)
        late = bool({"keep", "write"} & set(words)) and (now == "kept" or put is not None)
        held = "none" if page not in self.held else "sure" if self.held[page][1] else "loose"
        return ("runs", firm, now, same, put_firm is not None, put is not None, late, held, bool(words),
                self.lies(page, content, self.sealed), lies_now)

    def stands(self, page):
        return {self.stand(page, content) for content in self.disk(page)}


def models_along(rule, history):
    """The models at each moment of a stretch."""
    models = [Model(rule)]
    for deed in history:
        models.append(copy.deepcopy(models[-1]))
        models[-1].do(deed)
    return models


def stop_without(model, out=()):
    """What a stop now leaves, and its harms, in the stretch without the records at these indexes."""
    model = copy.deepcopy(model)
    model.sealed, model.point = [end - len([k for k in out if k < end]) for end in (model.sealed, model.point)]
    model.records = [record for k, record in enumerate(model.records) if k not in out]
    harms = model.do(("stop",))
    for page in sorted({name for _, name, _ in model.records}):
        if model.told(page)[4] is not None:
            harms = harms | model.do(("put", page))
    harms = harms | model.do(("end",))
    left = tuple([(page, tuple(sorted(model.disks[page]))) for page in sorted(model.disks)])
    return left, tuple(sorted(harms))


LIES = {"free": ("under",), "kept": ("under", "due", "over"), "plain": ("under", "own", "over")}
BOTH = (False, True)
NAMES = ("firm", "now", "same", "put", "later", "late", "held", "open", "lies", "lies_now")


def stands_by_form():
    """All stands by form, as [31] lists them."""
    fitting = [(life, lies) for life in LIES for lies in LIES[life]]
    running = [("runs", firm, now, same, put, later, late, held, loose, lies, lies_now)
               for firm, lies in fitting for now, lies_now in fitting
               for held in (("none",) if now == "free" else ("none", "sure", "loose"))
               for same in BOTH for put in BOTH for later in BOTH for late in BOTH for loose in BOTH]
    return running + [("goes", firm, put, lies) for firm, lies in fitting for put in ("none", "left", "done")]


def told_words(stand):
    """For each word of [33] that can follow: its harm, the stand behind it, and the set of the guards that bar it."""
    return told_going(*stand[1:]) if stand[0] == "goes" else told_running(dict(zip(NAMES, stand[1:])))


def told_going(firm, put, lies):
    words = {"stop": ("", ("goes", firm, {"none": "none", "left": "left", "done": "left"}[put], lies), set())}
    if put == "left":
        behind = ("goes", firm, "done", {"kept": "due", "plain": "under", "free": "under"}[firm])
        words["put"] = ("old" if (firm, lies) == ("plain", "own") else "", behind, set())
    if put != "none":
        words["point"] = ("", ("goes", firm, "none", lies), {"fixed", "walked"} if put == "left" else {"fixed"})
    if put != "left":
        p = put == "done"
        harm = "missed" if (firm, lies) == ("kept", "under") else "open" if lies == "over" else ""
        words["end"] = (harm, ("runs", firm, firm, True, p, p, False, "none", False, lies, lies), set())
    return words


def told_running(s):
    words = {}

    def word(name, changes, **bars):
        behind = ("runs", *({**s, **changes}[part] for part in NAMES))
        words[name] = ("", behind, {guard for guard in bars if bars[guard]})

    kept, loose = s["now"] == "kept", s["held"] == "loose"
    if s["now"] == "free":
        new = {"same": False, "open": True, "lies_now": "under"}
        word("keep", {**new, "now": "kept", "later": True, "late": True, "held": "loose"},
             quiet=not s["same"], calm=s["open"])
        word("plain", {**new, "now": "plain", "held": "none"},
             quiet=not s["same"], calm=s["open"], struck=s["later"])
    else:
        added = {"later": True, "late": True, "open": True, "lies_now": "under"} if kept else {}
        word("write", {"held": "loose", **added})
        word("free", {"now": "free", "same": False, "late": s["late"] if s["later"] else False, "held": "none",
                      "open": True, "lies_now": "under"}, settled=kept and loose)
    word("strike", {"later": False, "late": s["late"] if kept else False, "open": True}, dead=kept)
    reach = {"lies_now": "due" if kept else "own", "lies": {
        ("free", True): "under", ("free", False): "under", ("plain", True): "own", ("plain", False): "over",
        ("kept", True): "over" if s["late"] else "due", ("kept", False): "over"}[s["firm"], s["same"]]}
    if loose:
        word("reach", reach, ahead=kept and s["late"])
    if s["held"] != "none":
        word("flush", {**reach, "held": "sure"}, ahead=kept and s["late"])
    if s["open"]:
        word("seal", {"firm": s["now"], "put": s["later"], "lies": s["lies_now"], "same": True, "late": False,
                      "open": False}, first=s["now"] == "plain" and s["later"])
    if s["put"]:
        word("point", {"put": False, "later": s["later"] if s["late"] else False},
             clean=kept and s["same"] and loose, whole=s["firm"] == "kept" and not s["same"], level=s["open"])
    words["stop"] = ("", ("goes", s["firm"], "left" if s["put"] else "none", s["lies"]), set())
    return words


def told_follows(rule, stand):
    """What follows returns, by the words of [33]."""
    told = told_words(stand)
    return tuple(sorted([(word, told[word][0], told[word][1]) for word in told
                         if not told[word][2] & set(rule) and (told[word][0] or told[word][1] != stand)]))
