"""Whether any thing shows that two STORIES go ALIKE, or part."""

from forktales.outcomes import outcome
from forktales.pairsteps import PairSteps
from forktales.refusing import refuse
from forktales.scenekinds import is_tuple_of, is_word_pair


def lets_pairing(one, other, thing, *, table=((), ())):
    """The word of PAIRS, or of a PARTING ROW; any other thing is refused."""
    refuse(_fault(PairSteps(one, other, table), thing))
    return thing[0]


def _fault(steps, thing):
    """The word and the place by which a thing is refused, None where it is let by."""
    if not isinstance(thing, tuple) or len(thing) != 2:
        return ("shape", -1)
    word, things = thing
    if word == "alike" and is_tuple_of(things, _is_pair):
        return _pairs_fault(steps, things)
    if word == "parted" and is_tuple_of(things, is_word_pair):
        return _row_fault(steps, things)
    return ("shape", -1)


def _is_pair(thing):
    return isinstance(thing, tuple) and len(thing) == 2


def _pairs_fault(steps, pairs):
    sides = (steps.one, steps.other)
    for k, pair in enumerate(pairs):
        for side in (0, 1):
            if not sides[side].is_right_lean(pair[side]):
                return ("stand", (k, side))
        if k > 0 and not pairs[k - 1] < pair:
            return ("rise", k)
    there = {pair: True for pair in pairs}
    if steps.first_pair() not in there:
        return ("first", -1)
    for k, pair in enumerate(pairs):
        fault, next_steps = steps.look(pair)
        if fault is not None:
            return (fault, k)
        for j, (_, after) in enumerate(next_steps):
            if after not in there:
                return ("step", (k, j))
    return None


def _row_fault(steps, row):
    one = steps.one.tale.first()
    other = steps.other.tale.first()
    for k, choice in enumerate(row):
        bar, one = outcome(steps.one.tale, one, choice, ())
        if bar is not None or steps.calls[choice] is None:
            return ("row", k)
        bar, other = outcome(steps.other.tale, other, steps.calls[choice], ())
        if bar is not None:
            return ("row", k)
    fault, _ = steps.look((one, other))
    return ("same", -1) if fault is None else None
