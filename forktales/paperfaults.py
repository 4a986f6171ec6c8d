"""Faults of what papers are made of: the word and the place of the first, None where there is none."""

from forktales.outcomes import outcome
from forktales.standfaults import stand_fault


def stands_fault(steps, things):
    """The fault of the first, one by one, that is no RIGHT STAND, not LEAN, or not above the one ahead."""
    for k, thing in enumerate(things):
        if stand_fault(steps.tale, thing) is not None:
            return ("stand", k)
        if not steps.is_lean(thing):
            return ("lean", k)
        if k > 0 and not things[k - 1] < thing:
            return ("rise", k)
    return None


def closed_fault(steps, things, first):
    """The fault of things that are no CLOSED SET with this first STAND, made LEAN, in it."""
    fault = stands_fault(steps, things)
    if fault is not None:
        return fault
    there = {stand: True for stand in things}
    if first not in there:
        return ("first", -1)
    for k, stand in enumerate(things):
        for j, (_, after) in enumerate(steps.steps(stand)):
            if after not in there:
                return ("step", (k, j))
    return None


def ending_fault(steps, word, stands, endings):
    """The fault, with this word, of the first STAND whose SCENE has one of some endings."""
    for k, stand in enumerate(stands):
        if steps.ending(stand) in endings:
            return (word, k)
    return None


def row_fault(tale, begin, row, lifted, endings):
    """The fault of a row that isn't OFFERED from a STAND on, or doesn't come to one of some endings."""
    stand = begin
    for k, choice in enumerate(row):
        bar, stand = outcome(tale, stand, choice, lifted)
        if bar is not None:
            return ("row", k)
    return None if tale.ending(stand[0]) in endings else ("end", -1)
