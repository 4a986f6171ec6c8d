"""STANDS, choices, lines, what is LIVE, once more, straight from the document, for tests to compare with."""

import re

from tests import plainkinds


def scene_of(story, name):
    return next((scene for scene in story[5] if scene[0] == name), None)


def inside(part):
    """All tuples in a part that begin with a text, itself too."""
    if isinstance(part, tuple):
        if part and isinstance(part[0], str):
            yield part
        for inner in part:
            yield from inside(inner)


def asked(story):
    parts = [(pieces, [choice[1:5] for choice in choices]) for _, pieces, choices, _, _ in story[5]]
    found = [part[1] for pieces, rows in parts for part in [*inside(pieces), *inside(tuple(rows))] if len(part) == 2 and part[0] == "seen"]
    return sorted(set(found))


def first(story):
    begin = story[6]
    seen = tuple((name, int(name == begin)) for name in asked(story))
    return (begin, (), tuple(row[3] for row in story[0]), tuple(("at", row[1]) for row in story[3]), seen, (), 0)


def number_at(story, name):
    return [row[0] for row in story[0]].index(name)


def figure_at(story, name):
    return [row[0] for row in story[3]].index(name)


def where(story, stand, figure):
    return stand[3][figure_at(story, figure)]


def place(story, stand, figure):
    word, name = where(story, stand, figure)
    return name if word == "at" else place(story, stand, name)


def worth(story, stand, amount):
    word = amount[0]
    if word == "num":
        return amount[1]
    if word == "of":
        return stand[2][number_at(story, amount[1])]
    if word == "seen":
        return next(many for name, many in stand[4] if name == amount[1])
    one, other = worth(story, stand, amount[1]), worth(story, stand, amount[2])
    return one + other if word == "plus" else one - other


def met(story, stand, test):
    word = test[0]
    if word == "is":
        difference = worth(story, stand, test[1]) - worth(story, stand, test[3])
        return {"<": difference < 0, "=": difference == 0, ">": difference > 0}[test[2]]
    if word == "at":
        return place(story, stand, test[1]) == test[2]
    if word == "with":
        return where(story, stand, test[1]) == ("with", test[2])
    if word == "not":
        return not met(story, stand, test[1])
    many = sum(met(story, stand, inner) for inner in test[1])
    return many == len(test[1]) if word == "all" else many > 0


def put(things, k, thing):
    return things[:k] + (thing,) + things[k + 1:]


def follows(story, stand, figure, other):
    """Whether other is figure, or is with figure, or with one that is, and so on."""
    if figure == other:
        return True
    word, name = where(story, stand, other)
    return word == "with" and follows(story, stand, figure, name)


def put_number(story, stand, name, amount, digit):
    k = number_at(story, name)
    if amount not in range(story[0][k][1], story[0][k][2] + 1):
        return None
    return stand[:2] + (put(stand[2], k, amount),) + stand[3:6] + (digit,)


def done(story, stand, deed):
    word, name, *rest = deed
    digits, digit = story[4], stand[6]
    if word == "set":
        return put_number(story, stand, name, worth(story, stand, rest[0]), digit)
    if word == "draw":
        return put_number(story, stand, name, digits[digit], 0 if digit == len(digits) - 1 else digit + 1) if digits else None
    sort, at = where(story, stand, name)
    if word == "go":
        door = sort == "at" and ((at, rest[0]) in story[2] or (rest[0], at) in story[2])
        new = ("at", rest[0]) if door else None
    elif word == "put":
        new = ("at", rest[0])
    elif word == "join":
        fits = name != rest[0] and place(story, stand, name) == place(story, stand, rest[0]) and not follows(story, stand, name, rest[0])
        new = ("with", rest[0]) if fits else None
    else:
        new = ("at", place(story, stand, name)) if sort == "with" else None
    return None if new is None else stand[:3] + (put(stand[3], figure_at(story, name), new),) + stand[4:]


def come_to(story, name, known):
    for other in scene_of(story, name)[3]:
        if other not in known:
            known.append(other)
            come_to(story, other, known)
    return known


def choices_there(story, name):
    return [(scene, choice[0]) for scene in come_to(story, name, [name]) for choice in scene_of(story, scene)[2]]


def choice_of(story, pair):
    return next((choice for choice in scene_of(story, pair[0])[2] if choice[0] == pair[1]), None) if scene_of(story, pair[0]) else None


def make(story, stand, pair, lifted=()):
    """("barred", bar) or ("made", stand)."""
    scene, stack, _, _, _, had, _ = stand
    if scene_of(story, scene)[4] is not None:
        return ("barred", "ended")
    if pair not in choices_there(story, scene):
        return ("barred", "there")
    _, _, test, once, deeds, leads = choice_of(story, pair)
    if once and pair in had:
        return ("barred", "once")
    if not met(story, stand, test) and pair not in lifted:
        return ("barred", "test")
    for j, deed in enumerate(deeds):
        stand = done(story, stand, deed)
        if stand is None:
            return ("barred", ("deed", j))
    if leads[0] == "into" and len(stack) == 3 or leads[0] == "back" and not stack:
        return ("barred", "stack")
    behind = stack[-1] if leads[0] == "back" else leads[1]
    new_stack = stack[:-1] if leads[0] == "back" else stack + leads[2:]
    seen = tuple((name, min(9, many + (name == behind))) for name, many in stand[4])
    new_made = tuple(sorted(had + (pair,))) if once else had
    return ("made", (behind, new_stack, stand[2], stand[3], seen, new_made, stand[6]))


def tokens(story, stand, pieces, reader):
    for piece in pieces:
        word = piece[0]
        if word == "text":
            yield piece
        elif word == "worth":
            yield ("text", str(worth(story, stand, piece[1])))
        elif word == "place":
            yield ("text", place(story, stand, piece[1]))
        elif word == "if":
            yield from tokens(story, stand, piece[2] if met(story, stand, piece[1]) else piece[3], reader)
        elif word == "only":
            yield from tokens(story, stand, piece[2], reader) if piece[1] == reader else ()
        else:
            yield piece


def lines(story, stand, pieces, reader=None):
    all_told, marks, text = [], [], None
    for word, *rest in tokens(story, stand, pieces, reader):
        if word != "text":
            marks.append(word)
        elif rest[0]:
            if text is not None and "end" in marks and "glue" not in marks:
                all_told.append(text)
                text = None
            text = (text or "") + rest[0]
            marks = []
    trimmed = [re.sub("^ *(.*?) *$", r"\1", line) for line in [*all_told, text or ""]]
    return tuple(line for line in trimmed if line != "")


def shown(story, stand, reader=None):
    return lines(story, stand, scene_of(story, stand[0])[1], reader)


def offers(story, stand, lifted=()):
    pairs = [pair for pair in choices_there(story, stand[0]) if make(story, stand, pair, lifted)[0] == "made"]
    return tuple((*pair, lines(story, stand, choice_of(story, pair)[1])) for pair in pairs)


def run(story, row, begin=None, lifted=()):
    """("run", stands) or ("refused", k, why)."""
    stands = [first(story) if begin is None else begin]
    for k, pair in enumerate(row):
        word, thing = make(story, stands[-1], pair, lifted)
        if word == "barred":
            return ("refused", k, thing)
        stands.append(thing)
    return ("run", tuple(stands))


def things(story):
    found = [("num", row[0]) for row in story[0]] + [("seen", name) for name in asked(story)]
    found += [("made", scene[0], choice[0]) for scene in story[5] for choice in scene[2] if choice[3]]
    return tuple(sorted(found + [("figures",)] * bool(story[3]) + [("digit",)] * bool(story[4])))


def reads(story, name):
    _, pieces, _, _, ending = scene_of(story, name)
    pairs = [] if ending is not None else choices_there(story, name)
    parts = list(inside(pieces))
    for pair in pairs:
        parts += inside(choice_of(story, pair)[1:5])
    found = {("made", *pair) for pair in pairs if choice_of(story, pair)[3]}
    found |= {("num", part[1]) for part in parts if part[0] == "of"}
    found |= {("seen", part[1]) for part in parts if part[0] == "seen"}
    found |= {("figures",) for part in parts if part[0] in "at with place go put join leave".split()}
    return found | {("digit",) for part in parts if part[0] == "draw" and story[4]}


def live(story, name):
    left, known, found = [name], {name}, set()
    while left:
        scene = left.pop()
        found |= reads(story, scene)
        if scene_of(story, scene)[4] is None:
            for pair in choices_there(story, scene):
                new = set(choice_of(story, pair)[5][1:]) - known
                known |= new
                left += new
    return tuple(sorted(found))


def lean(story, stand):
    alive = {thing for name in (stand[0], *stand[1]) for thing in live(story, name)}
    start = first(story)
    numbers = [stand[2][k] if ("num", row[0]) in alive else start[2][k] for k, row in enumerate(story[0])]
    wheres = stand[3] if ("figures",) in alive else start[3]
    seen = [pair if ("seen", pair[0]) in alive else old for pair, old in zip(stand[4], start[4])]
    had = [pair for pair in stand[5] if ("made", *pair) in alive]
    return (*stand[:2], tuple(numbers), wheres, tuple(seen), tuple(had), stand[6] if ("digit",) in alive else start[6])


def stand_word(story, thing):
    """The fields of the refusal of a thing as a STAND, None of a RIGHT one."""
    kinds = plainkinds
    where_kind = lambda pair: kinds.row(pair, kinds.word, kinds.word) and pair[0] in ("at", "with")
    if not kinds.row(
        thing, kinds.word, kinds.every(kinds.word), kinds.every(kinds.number), kinds.every(where_kind),
        kinds.every(lambda pair: kinds.row(pair, kinds.word, kinds.number)),
        kinds.every(lambda pair: kinds.row(pair, kinds.word, kinds.word)), kinds.number,
    ) or len(thing[1]) > 3:
        return ("shape", -1)
    scenes = [scene[0] for scene in story[5]]
    figures = [row[0] for row in story[3]]
    onces = [(scene[0], choice[0]) for scene in story[5] for choice in scene[2] if choice[3] is True]
    numbers, wheres, seen, had, digit = thing[2:]
    if thing[0] not in scenes:
        return ("scene", -1)
    for j, name in enumerate(thing[1]):
        if name not in scenes:
            return ("stack", j)
    if len(numbers) != len(story[0]):
        return ("numbers", -1)
    for j, (_, low, high, _) in enumerate(story[0]):
        if numbers[j] < low or numbers[j] > high:
            return ("number", j)
    if len(wheres) != len(figures):
        return ("wheres", -1)
    for j, (word, name) in enumerate(wheres):
        if word == "at" and name not in story[1] or word == "with" and (name not in figures or name == figures[j]):
            return ("where", j)
    for j in range(len(wheres)):
        at = j
        for _ in range(len(wheres)):
            at = at if at is None or wheres[at][0] == "at" else figures.index(wheres[at][1])
            if wheres[at][0] == "at":
                break
            if at == j:
                return ("ring", j)
    if [name for name, _ in seen] != asked(story):
        return ("seen", -1)
    for j, (_, many) in enumerate(seen):
        if many < 0 or many > 9:
            return ("count", j)
    for j, pair in enumerate(had):
        if j and had[j - 1] >= pair or pair not in onces:
            return ("made", j)
    return None if digit in range(len(story[4]) or 1) else ("digit", -1)
