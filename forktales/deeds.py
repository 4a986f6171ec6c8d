"""DEEDS: what they do to what is remembered."""

from forktales.facts import Facts
from forktales.meanings import worth_by
from forktales.memory import chain_from, place_in
from forktales.tales import StoryTale


def deed_done(story, stand, deed):
    """The STAND at which a DEED is done, None where it cannot be."""
    tale = StoryTale(story)
    facts = Facts(tale, stand)
    return facts.as_stand() if do_deed(tale, facts, deed) else None


def _put_number(tale, facts, name, worth):
    low, high = tale.bounds[name]
    if not low <= worth <= high:
        return False
    facts.numbers[name] = worth
    return True


def _set(tale, facts, name, amount):
    return _put_number(tale, facts, name, worth_by(facts, amount))


def _draw(tale, facts, name):
    if not tale.digits or not _put_number(tale, facts, name, tale.digits[facts.digit]):
        return False
    facts.digit = (facts.digit + 1) % len(tale.digits)
    return True


def _go(tale, facts, figure, place):
    word, there = facts.wheres[figure]
    if word != "at" or tuple(sorted([there, place])) not in tale.doors:
        return False
    facts.wheres[figure] = ("at", place)
    return True


def _put(_, facts, figure, place):
    facts.wheres[figure] = ("at", place)
    return True


def _join(_, facts, figure, other):
    # the chain from the other begins with itself, so unlike they are, too
    if figure in chain_from(facts.wheres, other):
        return False
    if place_in(facts.wheres, figure) != place_in(facts.wheres, other):
        return False
    facts.wheres[figure] = ("with", other)
    return True


def _leave(_, facts, figure):
    if facts.wheres[figure][0] != "with":
        return False
    facts.wheres[figure] = ("at", place_in(facts.wheres, figure))
    return True


# What each DEED does, and tells: whether it can be done.
ACTS = {
    "set": _set,
    "draw": _draw,
    "go": _go,
    "put": _put,
    "join": _join,
    "leave": _leave,
}


def do_deed(tale, facts, deed):
    """Do a DEED, if it can be done; told is whether."""
    word, *things = deed
    act = ACTS[word]
    return act(tale, facts, *things)
