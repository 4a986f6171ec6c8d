"""Texts of stories and logs read once more, by a table of what may follow what, for tests to compare with.

Each reader tells ("read", thing) or ("refused", line, word).
"""

import re

PIECES = ("text", "worth", "place", "if", "break", "glue")
DEEDS = {"set": "nS", "draw": "n", "go": "nn", "put": "nn", "join": "nn", "leave": "n"}
NEXTS = {"to": "n", "into": "nn", "back": ""}
AFTER = {
    "start": ("number", "place", "door", "figure", "digits"),
    "number": ("number", "place", "door", "figure", "digits"),
    "place": ("place", "door", "figure", "digits"),
    "door": ("door", "figure", "digits"),
    "figure": ("figure", "digits"),
    "digits": ("begin",),
    "begin": ("scene", None),
    "scene": (*PIECES, "only", "choice", "once", "woven", "ending", "scene", None),
    "label": (*PIECES, "when"),
    "deeds": (*DEEDS, *NEXTS),
    "led": ("choice", "once", "woven", "ending", "scene", None),
    "woven": ("ending", "scene", None),
    "ending": ("scene", None),
}
WORD = re.compile("[a-z]{1,8}")
NUMBER = re.compile("0|-?[1-9][0-9]{0,59}")
COUNT = re.compile("0|[1-9][0-9]?")
DIGIT = re.compile("[0-9]")


class Stop(Exception):
    pass


class Line:
    """The words of a line, taken one after the other."""

    def __init__(self, text):
        self.words = text.split(" ")
        self.at = 1

    def take(self, pattern, fits=lambda word: True):
        if self.at == len(self.words):
            raise Stop(self.at)
        word = self.words[self.at]
        if not pattern.fullmatch(word) or not fits(word):
            raise Stop(self.at)
        self.at += 1
        return word

    def name(self, fits=lambda word: True):
        return self.take(WORD, fits)

    def number(self, fits=lambda number: True):
        return int(self.take(NUMBER, lambda word: fits(int(word))))

    def amount(self):
        word = self.take(re.compile("num|of|seen|plus|minus"))
        if word == "num":
            return (word, self.number())
        if word in ("of", "seen"):
            return (word, self.name())
        first = self.amount()
        return (word, first, self.amount())

    def test(self):
        word = self.take(re.compile("is|at|with|not|all|any"))
        if word == "is":
            first = self.amount()
            sign = self.take(re.compile("<|=|>"))
            return (word, first, sign, self.amount())
        if word in ("at", "with"):
            first = self.name()
            return (word, first, self.name())
        if word == "not":
            return (word, self.test())
        return (word, tuple([self.test() for _ in range(int(self.take(COUNT)))]))

    def slots(self, kinds):
        return tuple([self.amount() if kind == "S" else self.name() for kind in kinds])

    def end(self):
        if self.at < len(self.words):
            raise Stop(self.at)


class Story:
    """A story as far as its lines have come."""

    def __init__(self):
        self.state = "start"
        self.parts = {"number": [], "place": [], "door": [], "figure": [], "scene": []}
        self.digits = self.begin = None
        self.open = []
        self.pieces = None

    def first_words(self):
        words = AFTER[self.state]
        if not self.open:
            return words
        block = self.open[-1]
        if block[0] == "if" and len(block) == 4:
            closing = "else"
        else:
            closing = "done"
        pieces = PIECES if self.state == "label" else PIECES + ("only",)
        return (*pieces, closing)

    def read(self, text):
        word = text.split(" ")[0]
        if word not in self.first_words():
            raise Stop(0)
        line = Line(text)
        if word in ("number", "place", "door", "figure") and self.state in ("start", "number", "place", "door", "figure"):
            getattr(self, "read_" + word)(line)
            self.state = word
        elif word in (*PIECES, "only", "else", "done"):
            self.read_piece(word, line, text)
        elif word in DEEDS:
            self.choice[4].append((word, *line.slots(DEEDS[word])))
        elif word in NEXTS:
            self.choice[5] = (word, *line.slots(NEXTS[word]))
            self.state = "led"
        else:
            getattr(self, "read_" + word)(line)
        if word != "text":
            line.end()

    def above(self, sort):
        done = self.parts[sort]
        return lambda word: not done or word > done[-1][0]

    def read_number(self, line):
        name = line.name(self.above("number"))
        low = line.number()
        high = line.number(lambda number: number >= low)
        self.parts["number"].append((name, low, high, line.number(lambda number: low <= number <= high)))

    def read_place(self, line):
        self.parts["place"].append((line.name(self.above("place")),))

    def read_door(self, line):
        doors = self.parts["door"]
        first = line.name(lambda word: not doors or word >= doors[-1][0])
        alike = doors and doors[-1][0] == first
        second = line.name(lambda word: word > first and not (alike and word <= doors[-1][1]))
        doors.append((first, second))

    def read_figure(self, line):
        name = line.name(self.above("figure"))
        self.parts["figure"].append((name, line.name()))

    def read_digits(self, line):
        self.digits = tuple([int(line.take(DIGIT)) for _ in line.words[1:]])
        self.state = "digits"

    def read_begin(self, line):
        self.begin = line.name()
        self.state = "begin"

    def read_scene(self, line):
        self.pieces = []
        self.parts["scene"].append([line.name(self.above("scene")), self.pieces, [], [], None])
        self.state = "scene"

    def read_choice(self, line, once=False):
        choices = self.parts["scene"][-1][2]
        name = line.name(lambda word: word not in [choice[0] for choice in choices])
        self.pieces = []
        self.choice = [name, self.pieces, None, once, [], None]
        choices.append(self.choice)
        self.state = "label"

    def read_once(self, line):
        self.read_choice(line, True)

    def read_when(self, line):
        self.choice[2] = line.test()
        self.state = "deeds"

    def read_woven(self, line):
        woven = self.parts["scene"][-1][3]
        woven.append(line.name())
        while line.at < len(line.words):
            woven.append(line.name(lambda word: word not in woven))
        self.state = "woven"

    def read_ending(self, line):
        self.parts["scene"][-1][4] = line.name()
        self.state = "ending"

    def read_piece(self, word, line, text):
        if word == "text":
            if " " not in text:
                raise Stop(1)
            self.pieces.append(("text", text[5:]))
        elif word == "worth":
            self.pieces.append((word, line.amount()))
        elif word == "place":
            self.pieces.append((word, line.name()))
        elif word in ("break", "glue"):
            self.pieces.append(("end",) if word == "break" else ("glue",))
        elif word in ("if", "only"):
            self.open.append([word, line.test() if word == "if" else line.name(), self.pieces, []])
            self.pieces = self.open[-1][3]
        elif word == "else":
            self.pieces = []
            self.open[-1].append(self.pieces)
        else:
            head, told, ahead, *parts = self.open.pop()
            ahead.append((head, told, *[tuple(part) for part in parts]))
            self.pieces = ahead

    def told(self):
        scenes = []
        for name, pieces, choices, woven, ending in self.parts["scene"]:
            done = [(n, tuple(label), t, o, tuple(deeds), leads) for n, label, t, o, deeds, leads in choices]
            scenes.append((name, tuple(pieces), tuple(done), tuple(woven), ending))
        numbers, doors, figures = [tuple(self.parts[sort]) for sort in ("number", "door", "figure")]
        places = tuple([place for place, in self.parts["place"]])
        return (numbers, places, doors, figures, self.digits, tuple(scenes), self.begin)


def read_story(text):
    story = Story()
    lines = text.split("\n")
    for k, line in enumerate(lines):
        try:
            story.read(line)
        except Stop as stop:
            return ("refused", k, stop.args[0])
    if None not in story.first_words():
        return ("refused", len(lines), 0)
    return ("read", story.told())


ROWS = {
    "house": (("turns|votes|any"), ("LIST"), ("[1-9][0-9]{0,59}")),
    "come": ("[a-z]{1,8}",),
    "go": ("[a-z]{1,8}",),
    "pick": ("[a-z]{1,8}", "[a-z]{1,8}", "[a-z]{1,8}"),
    "vote": ("[a-z]{1,8}", "[a-z]{1,8}", "[a-z]{1,8}"),
    "edit": ("[1-9][0-9]{0,59}", "PAIRS", "PAIRS2"),
    "back": ("0|-?[1-9][0-9]{0,59}",),
}


def list_of(word, part):
    """The parts of a list in one word; None where one is not as the pattern tells."""
    if word == "-":
        return []
    parts = word.split(",")
    return parts if all(re.fullmatch(part, one) for one in parts) else None


def rising(things):
    return list(things) == sorted(set(things))


def slot_read(pattern, word):
    """What a word of a log's line writes, None where it cannot stand."""
    if pattern == "LIST":
        readers = list_of(word, "[a-z]{1,8}")
        return tuple(readers) if readers is not None and rising(readers) else None
    if pattern in ("PAIRS", "PAIRS2"):
        one = "[a-z]{1,8}" if pattern == "PAIRS" else r"[a-z]{1,8}\.[a-z]{1,8}"
        parts = list_of(word, one + ">" + one)
        if parts is None:
            return None
        pairs = [tuple(part.split(">")) for part in parts]
        if pattern == "PAIRS2":
            pairs = [(tuple(first.split(".")), tuple(second.split("."))) for first, second in pairs]
        seconds = [second for _, second in pairs]
        good = rising([first for first, _ in pairs]) and len(set(seconds)) == len(seconds)
        return tuple(pairs) if good else None
    if not re.fullmatch(pattern, word):
        return None
    return int(word) if "0-9" in pattern else word


def row_slots(words):
    """What the words behind a line's first one write; Stop where one cannot stand."""
    slots = []
    for k, pattern in enumerate(ROWS[words[0]], start=1):
        slot = slot_read(pattern, words[k]) if k < len(words) else None
        if slot is None:
            raise Stop(k)
        slots.append(slot)
    if len(words) > len(slots) + 1:
        raise Stop(len(slots) + 1)
    return slots


def read_log(text):
    lines = text.split("\n")
    rows = []
    at = 0
    while at < len(lines) or not rows:
        words = lines[at].split(" ")
        if (words[0] == "house") is not (at == 0) or words[0] not in ROWS:
            return ("refused", at, 0)
        try:
            slots = row_slots(words)
        except Stop as stop:
            return ("refused", at, stop.args[0])
        at += 1
        if words[0] in ("house", "edit"):
            many = slots.pop(2 if words[0] == "house" else 0)
            if at + many > len(lines):
                return ("refused", len(lines), 0)
            told = read_story("\n".join(lines[at:at + many]))
            if told[0] == "refused":
                return ("refused", at + told[1], told[2])
            at += many
            if words[0] == "house":
                rows.append(("house", told[1], slots[1], slots[0]))
            else:
                rows.append(("edit", told[1], tuple(slots)))
        elif words[0] in ("pick", "vote"):
            rows.append((words[0], slots[0], (slots[1], slots[2])))
        else:
            rows.append((words[0], slots[0]))
    return ("read", tuple(rows))
