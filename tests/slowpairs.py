"""Rows led over, stories that go alike or part, once more, straight from the document, for tests to compare with."""

from tests import slowtale
from tests.helpers import same


def call_of(table, choice):
    scenes, choices = table
    if choice in [first for first, _ in choices]:
        return next(second for first, second in choices if first == choice)
    scene = next((second for first, second in scenes if first == choice[0]), None)
    if scene is None:
        scene = None if choice[0] in [second for _, second in scenes] else choice[0]
    if scene is None or (scene, choice[1]) in [second for _, second in choices]:
        return None
    return (scene, choice[1])


def led(other, row, table):
    """(calls, stands, why), why None where all are led over."""
    calls, stands = [], [slowtale.first(other)]
    for choice in row:
        call = call_of(table, choice)
        if call is None:
            return calls, stands, "table"
        word, thing = slowtale.make(other, stands[-1], call)
        if word == "barred":
            return calls, stands, thing
        calls.append(call)
        stands.append(thing)
    return calls, stands, None


def lead_word(other, row, thing, table):
    """("let", word) or ("refused", word, at)."""
    shape = ("refused", "shape", -1)
    if type(thing) is not tuple or len(thing) not in (2, 3) or type(thing[0]) is not str or type(thing[1]) is not tuple:
        return shape
    if thing[0] != {2: "led", 3: "barred"}[len(thing)]:
        return shape
    stands = thing[1]
    if thing[0] == "led" and len(stands) != len(row) + 1 or thing[0] == "barred" and len(stands) not in range(1, len(row) + 1):
        return shape
    if not same(stands[0], slowtale.first(other)):
        return ("refused", "first", -1)
    for j in range(1, len(stands)):
        call = call_of(table, row[j - 1])
        step = None if call is None else slowtale.make(other, stands[j - 1], call)
        if step is None or not same(step, ("made", stands[j])):
            return ("refused", "step", j)
    if thing[0] == "barred":
        call = call_of(table, row[len(stands) - 1])
        word, why = ("barred", "table") if call is None else slowtale.make(other, stands[-1], call)
        if word == "made" or not same(why, thing[2]):
            return ("refused", "why", -1)
    return ("let", thing[0])


def offered(story, stand):
    return [offer[:2] for offer in slowtale.offers(story, stand)]


def parts_at(one, other, pair, table):
    """"ending", "offers", or None where it is as told."""
    endings = [slowtale.scene_of(story, stand[0])[4] for story, stand in ((one, pair[0]), (other, pair[1]))]
    if endings[0] != endings[1]:
        return "ending"
    calls = [call_of(table, choice) for choice in offered(one, pair[0])]
    return None if None not in calls and sorted(calls) == sorted(offered(other, pair[1])) else "offers"


def first_pair(one, other):
    return tuple(slowtale.lean(story, slowtale.first(story)) for story in (one, other))


def lean_made(story, stand, choice):
    return slowtale.lean(story, slowtale.make(story, stand, choice)[1])


def steps(one, other, pair, table):
    return [(lean_made(one, pair[0], choice), lean_made(other, pair[1], call_of(table, choice))) for choice in offered(one, pair[0])]


def reach(one, other, table, most):
    """(pairs, how many choices the least parting row has), both in reach; None where more than most pairs come in."""
    pairs, level, least, far = {first_pair(one, other)}, {first_pair(one, other)}, None, 0
    while level:
        if len(pairs) > most:
            return None
        behind = set()
        for pair in level:
            if parts_at(one, other, pair, table) is None:
                behind.update(steps(one, other, pair, table))
            elif least is None:
                least = far
        level = behind - pairs
        pairs |= level
        far += 1
    return pairs, least


def is_right_lean(story, thing):
    return slowtale.stand_word(story, thing) is None and slowtale.lean(story, thing) == thing


def pairing_word(one, other, thing, table):
    """("let", word) or ("refused", word, at)."""
    shape = ("refused", "shape", -1)
    if type(thing) is not tuple or len(thing) != 2 or type(thing[1]) is not tuple or type(thing[0]) is not str:
        return shape
    word, rows = thing
    if any(type(row) is not tuple or len(row) != 2 for row in rows):
        return shape
    if word == "parted":
        if not all(slowtale.plainkinds.word(name) for row in rows for name in row):
            return shape
        return parted_word(one, other, rows, table)
    return pairs_word(one, other, rows, table) if word == "alike" else shape


def pairs_word(one, other, pairs, table):
    for k, pair in enumerate(pairs):
        for side, story in enumerate((one, other)):
            if not is_right_lean(story, pair[side]):
                return ("refused", "stand", (k, side))
        if k and pairs[k - 1] >= pair:
            return ("refused", "rise", k)
    if first_pair(one, other) not in pairs:
        return ("refused", "first", -1)
    for k, pair in enumerate(pairs):
        part = parts_at(one, other, pair, table)
        if part is not None:
            return ("refused", part, k)
        for j, step in enumerate(steps(one, other, pair, table)):
            if step not in pairs:
                return ("refused", "step", (k, j))
    return ("let", "alike")


def parted_word(one, other, row, table):
    at, there = slowtale.first(one), slowtale.first(other)
    for k, choice in enumerate(row):
        call = call_of(table, choice)
        if choice not in offered(one, at) or call is None or call not in offered(other, there):
            return ("refused", "row", k)
        at, there = slowtale.make(one, at, choice)[1], slowtale.make(other, there, call)[1]
    return ("let", "parted") if parts_at(one, other, (at, there), table) else ("refused", "same", -1)
