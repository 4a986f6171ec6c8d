"""DEEDS: what they do to what is remembered."""

from forktales.facts import Facts
from forktales.folding import flat_marks, folded
from forktales.grounds import ground_of
from forktales.memory import chain_from, place_in


def deed_done(story, stand, deed):
    """The STAND at which a DEED is done, None where it cannot be."""
    ground = ground_of(story)
    facts = Facts(ground.bounds, ground.figures, stand)
    return facts.as_stand() if do_deed(ground, facts, flat_marks("DEED", deed)) else None


def _set(ground, facts, name, amount):
    low, high = ground.bounds[name]
    if not low <= amount <= high:
        return False
    facts.numbers[name] = amount
    return True


def _draw(ground, facts, name):
    if not ground.digits or not _set(ground, facts, name, ground.digits[facts.digit]):
        return False
    facts.digit = (facts.digit + 1) % len(ground.digits)
    return True


def _go(ground, facts, figure, place):
    word, there = facts.wheres[figure]
    if word != "at" or tuple(sorted([there, place])) not in ground.doors:
        return False
    facts.wheres[figure] = ("at", place)
    return True


def _put(_, facts, figure, place):
    facts.wheres[figure] = ("at", place)
    return True


def _join(_, facts, figure, other):
    # the chain from the other begins with itself, so unlike they are, too
    if figure in chain_from(facts.wheres, other):
        return False
    if place_in(facts.wheres, figure) != place_in(facts.wheres, other):
        return False
    facts.wheres[figure] = ("with", other)
    return True


def _leave(_, facts, figure):
    if facts.wheres[figure][0] != "with":
        return False
    facts.wheres[figure] = ("at", place_in(facts.wheres, figure))
    return True


# What each DEED does, and tells: whether it can be done.
ACTS = {
    "set": _set,
    "draw": _draw,
    "go": _go,
    "put": _put,
    "join": _join,
    "leave": _leave,
}


def do_deed(ground, facts, marks):
    """Do the DEED of such marks, if it can be done; told is whether."""
    word, *things = folded(marks, facts)
    act = ACTS[word]
    return act(ground, facts, *things)
