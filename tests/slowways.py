"""Ways, papers of them, what stays in another story, once more, straight from the document, for tests to compare with."""

import itertools

from tests import plainkinds, slowtale

SHAPE = ("refused", "shape", -1)


def lean_first(story):
    return slowtale.lean(story, slowtale.first(story))


def offered(story, stand):
    return [offer[:2] for offer in slowtale.offers(story, stand)]


def lean_step(story, stand, choice, lifted=()):
    return slowtale.lean(story, slowtale.make(story, stand, choice, lifted)[1])


def ending(story, stand):
    return slowtale.scene_of(story, stand[0])[4]


def plain_heights(story, most):
    """All stands in reach with their heights, by rows of more and more choices; None where more than most."""
    heights, rows = {slowtale.first(story): 0}, [()]
    while rows:
        longer = []
        for row in rows:
            at = slowtale.run(story, row)[1][-1]
            for choice in offered(story, at):
                behind = slowtale.make(story, at, choice)[1]
                if behind not in heights:
                    heights[behind] = len(row) + 1
                    longer.append((*row, choice))
        rows = longer
        if len(heights) > most:
            return None
    return heights


def lean_heights(story, most):
    """Likewise lean stands, by lean steps."""
    heights, level = {lean_first(story): 0}, [lean_first(story)]
    while level:
        behind = {lean_step(story, at, choice) for at in level for choice in offered(story, at)}
        level = sorted(behind - set(heights))
        high = max(heights.values()) + 1
        heights.update((at, high) for at in level)
        if len(heights) > most:
            return None
    return heights


def made_lean(story, heights):
    """The stands of some made lean, each with the least height of any that is so."""
    least = {}
    for at, height in heights.items():
        lean = slowtale.lean(story, at)
        least[lean] = min(height, least.get(lean, height))
    return least


def from_stand(story, stand, most):
    """All lean stands in reach from one."""
    known, left = [slowtale.lean(story, stand)], [slowtale.lean(story, stand)]
    while left:
        at = left.pop()
        for choice in offered(story, at):
            behind = lean_step(story, at, choice)
            if behind not in known:
                known.append(behind)
                left.append(behind)
        if len(known) > most:
            return None
    return known


def pair_row(thing):
    """Whether a thing is a tuple of pairs of words."""
    return plainkinds.every(lambda pair: plainkinds.row(pair, plainkinds.word, plainkinds.word))(thing)


def made_word(story, stand, choice, thing):
    kinds = slowtale.stand_word(story, thing)
    if kinds == ("shape", -1):
        return SHAPE
    word, after = slowtale.make(story, stand, choice)
    if word == "barred":
        return ("refused", "barred", -1)
    parts = [j for j in range(7) if thing[j] != after[j]]
    return ("refused", "part", parts[0]) if parts else ("let", True)


def stands_word(story, things):
    """What is refused of things one by one as lean right stands that rise, None of none."""
    for k, thing in enumerate(things):
        if slowtale.stand_word(story, thing) is not None:
            return ("refused", "stand", k)
        if slowtale.lean(story, thing) != thing:
            return ("refused", "lean", k)
        if k and things[k - 1] >= thing:
            return ("refused", "rise", k)
    return None


def closed_word(story, things, first):
    refused = stands_word(story, things)
    if refused is None and first not in things:
        refused = ("refused", "first", -1)
    if refused is not None:
        return refused
    for k, at in enumerate(things):
        for j, choice in enumerate(offered(story, at)):
            if lean_step(story, at, choice) not in things:
                return ("refused", "step", (k, j))
    return None


def classes_word(story, thing):
    if type(thing) is not tuple:
        return SHAPE
    return closed_word(story, thing, lean_first(story)) or ("let", len(thing))


def row_word(story, begin, row, lifted, ends):
    at = begin
    for k, choice in enumerate(row):
        word, at = slowtale.make(story, at, choice, lifted)
        if word == "barred":
            return ("refused", "row", k)
    return None if ending(story, at) in ends else ("refused", "end", -1)


def height_word(story, name, thing):
    """("let", n) or ("refused", word, at) of an ending of the story."""
    if type(thing) is not tuple or not thing or type(thing[0]) is not str:
        return SHAPE
    if len(thing) == 2 and thing[0] == "never" and type(thing[1]) is tuple:
        refused = closed_word(story, thing[1], lean_first(story))
        if refused is not None:
            return refused
        sooner = [k for k, at in enumerate(thing[1]) if ending(story, at) == name]
        return ("refused", "sooner", sooner[0]) if sooner else ("let", None)
    high = plainkinds.every(lambda pair: plainkinds.row(pair, lambda _: True, plainkinds.number) and pair[1] >= 0)
    if len(thing) != 3 or thing[0] != "reached" or not pair_row(thing[1]) or not high(thing[2]):
        return SHAPE
    _, row, pairs = thing
    refused = row_word(story, slowtale.first(story), row, (), (name,)) or stands_word(story, [at for at, _ in pairs])
    return refused or heights_word(story, name, len(row), pairs)


def heights_word(story, name, many, pairs):
    if (lean_first(story), 0) not in pairs:
        return ("refused", "first", -1)
    for k, (at, height) in enumerate(pairs):
        if height < many and ending(story, at) == name:
            return ("refused", "sooner", k)
        for j, choice in enumerate(offered(story, at) if height + 1 < many else ()):
            behind = lean_step(story, at, choice)
            if not any(other == behind and far <= height + 1 for other, far in pairs):
                return ("refused", "step", (k, j))
    return ("let", many)


def agree(one, stand, other, second):
    if (stand[0], stand[1], stand[6]) != (second[0], second[1], second[6]):
        return False
    for part, rows in ((2, 0), (3, 3)):
        ones = [row[0] for row in one[rows]]
        others = [row[0] for row in other[rows]]
        for name in set(ones) & set(others):
            if stand[part][ones.index(name)] != second[part][others.index(name)]:
                return False
    for name in set(slowtale.asked(one)) & set(slowtale.asked(other)):
        if dict(stand[4])[name] != dict(second[4])[name]:
            return False
    onces = [{(scene[0], choice[0]) for scene in story[5] for choice in scene[2] if choice[3]} for story in (one, other)]
    return all((pair in stand[5]) == (pair in second[5]) for pair in onces[0] & onces[1])


def kept(one, other, row):
    many = 0
    for k in range(len(row) + 1):
        ran = slowtale.run(other, row[:k])
        if ran[0] == "refused" or not agree(one, slowtale.run(one, row[:k])[1][-1], other, ran[1][-1]):
            break
        many += 1
    return many


def firm(one, other, row):
    if any(one[k] != other[k] for k in (0, 1, 2, 3, 4, 6)) or slowtale.asked(one) != slowtale.asked(other):
        return 0
    many = 0
    for stand in slowtale.run(one, row)[1]:
        many += 1
        names = slowtale.come_to(one, stand[0], [stand[0]])
        if any(slowtale.scene_of(one, name) != slowtale.scene_of(other, name) for name in names):
            break
    return many


def endings(story):
    return {scene[4] for scene in story[5]} - {None}


def only_readers(story):
    return {part[1] for scene in story[5] for part in slowtale.inside(scene[1]) if part[0] == "only"}


def lines(story, most):
    """Each line ever shown, and the fewest choices to it; None where more than most lean stands."""
    heights = lean_heights(story, most)
    if heights is None:
        return None
    fewest = {}
    for at, height in heights.items():
        for reader in [None, *only_readers(story)]:
            for line in slowtale.shown(story, at, reader):
                fewest[line] = min(height, fewest.get(line, height))
    return fewest


def stuck(story, heights):
    return tuple(sorted(at for at in heights if ending(story, at) is None and not offered(story, at)))


def traps(story, heights):
    """Those from which none in reach has an ending."""
    return tuple(sorted(at for at in heights if all(ending(story, other) is None for other in from_stand(story, at, 10 ** 9))))


def trap_word(story, stand, thing):
    if type(thing) is not tuple or len(thing) != 2 or type(thing[0]) is not str or type(thing[1]) is not tuple:
        return SHAPE
    word, things = thing
    if word == "way" and pair_row(things):
        return row_word(story, stand, things, (), endings(story)) or ("let", "way")
    if word != "trap":
        return SHAPE
    refused = closed_word(story, things, slowtale.lean(story, stand))
    if refused is not None:
        return refused
    ends = [k for k, at in enumerate(things) if ending(story, at) is not None]
    return ("refused", "end", ends[0]) if ends else ("let", "trap")


def all_choices(story):
    return [(scene[0], choice[0]) for scene in story[5] for choice in scene[2]]


def reaches(story, name, lifted):
    """Whether choices that are offered with these lifted come to an ending."""
    known, left = {lean_first(story)}, [lean_first(story)]
    while left:
        at = left.pop()
        if ending(story, at) == name:
            return True
        for offer in slowtale.offers(story, at, lifted):
            behind = lean_step(story, at, offer[:2], lifted)
            if behind not in known:
                known.add(behind)
                left.append(behind)
    return False


def lock_size(story, name):
    """How many choices the locks of an ending have, None of none: all that there are are tried."""
    choices = all_choices(story)
    if not reaches(story, name, choices):
        return None
    return next(k for k in range(len(choices) + 1) if any(reaches(story, name, some) for some in itertools.combinations(choices, k)))


def lock_steps(story, pair):
    """(j, pair) of each choice at the scene that is offered with all lifted."""
    laid, at = pair
    for j, choice in enumerate(slowtale.choices_there(story, at[0])):
        word, behind = slowtale.make(story, at, choice, (choice,))
        if word == "made":
            is_met = slowtale.met(story, at, slowtale.choice_of(story, choice)[2])
            yield j, (laid if is_met or choice in laid else tuple(sorted({*laid, choice})), slowtale.lean(story, behind))


def few(laid, many):
    return many is None or len(laid) < many


def least_bar(story, many):
    """The least closed bar of pairs with fewer than so many laid, of None however many."""
    if many == 0:
        return set()
    bar, left = {((), lean_first(story))}, [((), lean_first(story))]
    while left:
        for _, behind in lock_steps(story, left.pop()):
            if behind not in bar and few(behind[0], many):
                bar.add(behind)
                left.append(behind)
    return bar


def lock_word(story, name, thing):
    """("let", n) or ("refused", word, at) of an ending of the story."""
    if type(thing) is not tuple or not thing or type(thing[0]) is not str:
        return SHAPE
    bar_kind = plainkinds.every(lambda pair: plainkinds.row(pair, pair_row, lambda _: True))
    if len(thing) == 2 and thing[0] == "none" and bar_kind(thing[1]):
        return bar_word(story, name, thing[1], None) or ("let", None)
    if len(thing) != 4 or thing[0] != "lock" or not pair_row(thing[1]) or not pair_row(thing[2]) or not bar_kind(thing[3]):
        return SHAPE
    _, lifted, row, bar = thing
    for k, choice in enumerate(lifted):
        if choice not in all_choices(story) or k and lifted[k - 1] >= choice:
            return ("refused", "lifted", k)
    refused = row_word(story, slowtale.first(story), row, lifted, (name,)) or bar_word(story, name, bar, len(lifted))
    return refused or ("let", len(lifted))


def bar_word(story, name, bar, many):
    for k, (laid, at) in enumerate(bar):
        if list(laid) != sorted(set(laid)) or not set(laid) <= set(all_choices(story)) or not few(laid, many):
            return ("refused", "laid", k)
        if slowtale.stand_word(story, at) is not None:
            return ("refused", "stand", k)
        if slowtale.lean(story, at) != at:
            return ("refused", "lean", k)
        if k and bar[k - 1] >= bar[k]:
            return ("refused", "rise", k)
        if ending(story, at) == name:
            return ("refused", "sooner", k)
    if many != 0 and ((), lean_first(story)) not in bar:
        return ("refused", "first", -1)
    for k, pair in enumerate(bar):
        for j, behind in lock_steps(story, pair):
            if few(behind[0], many) and behind not in bar:
                return ("refused", "step", (k, j))
    return None
