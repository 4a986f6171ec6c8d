"""The first thing by which any thing is no RIGHT STAND."""

from forktales.bounds import SEEN
from forktales.standkinds import is_stand


def stand_fault(tale, thing):
    """The word and the place by which a thing is refused as a STAND, None of a RIGHT one."""
    if not is_stand(thing):
        return ("shape", -1)
    scene, stack, numbers, wheres, seen, made, digit = thing
    return (
        _scene_fault(tale, scene, stack)
        or _number_fault(tale, numbers)
        or _where_fault(tale, wheres)
        or _seen_fault(tale, seen)
        or _made_fault(tale, made)
        or _digit_fault(tale, digit)
    )


def _first_fault(word, truths):
    """The word and the number of the first that isn't so, None where all are."""
    return (word, truths.index(False)) if False in truths else None


def _scene_fault(tale, scene, stack):
    if not tale.has_scene(scene):
        return ("scene", -1)
    return _first_fault("stack", [tale.has_scene(name) for name in stack])


def _number_fault(tale, numbers):
    bounds = list(tale.bounds.values())
    if len(numbers) != len(bounds):
        return ("numbers", -1)
    return _first_fault("number", [low <= amount <= high for amount, (low, high) in zip(numbers, bounds)])


def _where_fault(tale, wheres):
    if len(wheres) != len(tale.figures):
        return ("wheres", -1)
    by_figure = dict(zip(tale.figures, wheres))
    fault = _first_fault("where", [_is_where_of(tale, figure, by_figure[figure]) for figure in tale.figures])
    return fault or _first_fault("ring", [not _is_in_ring(by_figure, figure) for figure in tale.figures])


def _is_where_of(tale, figure, where):
    word, name = where
    return name in tale.places if word == "at" else name in tale.figures and name != figure


def _is_in_ring(wheres, figure):
    """Whether a figure is with one that is with it, or with one that is, and so on."""
    last = figure
    # as many steps as there are figures lead round any ring
    for _ in wheres:
        word, last = wheres[last]
        if word == "at":
            return False
        if last == figure:
            return True
    return False


def _seen_fault(tale, seen):
    if [name for name, _ in seen] != [name for name, _ in tale.first()[4]]:
        return ("seen", -1)
    return _first_fault("count", [0 <= many <= SEEN for _, many in seen])


def _made_fault(tale, made):
    rising = [j == 0 or made[j - 1] < made[j] for j in range(len(made))]
    return _first_fault("made", [tale.is_once(pair) and is_above for pair, is_above in zip(made, rising)])


def _digit_fault(tale, digit):
    return None if 0 <= digit < max(1, len(tale.digits)) else ("digit", -1)
