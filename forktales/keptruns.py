"""What stays of a ROW in another STORY."""

from forktales.lookups import scenes_by_name
from forktales.outcomes import outcome
from forktales.taleruns import stands_run
from forktales.tales import StoryTale
from forktales.weaving import asked_scenes, woven_at


def do_agree(one, stand, other, second):
    """Whether a STAND of one STORY and one of another AGREE."""
    return _agree(StoryTale(one), stand, StoryTale(other), second)


def kept_stands(one, other, row):
    """How many STANDS of a ROW, from the FIRST on, AGREE in both STORIES."""
    tale = StoryTale(one)
    other_tale = StoryTale(other)
    stand = tale.first()
    second = other_tale.first()
    kept = 0
    for choice in row:
        if not _agree(tale, stand, other_tale, second):
            return kept
        kept += 1
        _, stand = outcome(tale, stand, choice, ())
        bar, second = outcome(other_tale, second, choice, ())
        if bar is not None:
            return kept
    return kept + 1 if _agree(tale, stand, other_tale, second) else kept


def firm_stands(one, other, row):
    """How many STANDS of a ROW are FIRM: up to the first SCENE that is TOUCHED."""
    if one[:5] != other[:5] or one[6] != other[6] or asked_scenes(one) != asked_scenes(other):
        return 0
    touched = _touched(one, other)
    stands = stands_run(StoryTale(one), row, None, ())
    for k, stand in enumerate(stands):
        if touched[stand[0]]:
            return k + 1
    return len(stands)


def _agree(tale, stand, other_tale, second):
    """Whether two STANDS are the same in all that both STORIES have."""
    if stand[:2] != second[:2] or stand[6] != second[6]:
        return False
    return (
        _are_same_in_both(dict(zip(tale.bounds, stand[2])), dict(zip(other_tale.bounds, second[2])))
        and _are_same_in_both(dict(zip(tale.figures, stand[3])), dict(zip(other_tale.figures, second[3])))
        and _are_same_in_both(dict(stand[4]), dict(second[4]))
        and all([pair in second[5] or not other_tale.is_once(pair) for pair in stand[5]])
        and all([pair in stand[5] or not tale.is_once(pair) for pair in second[5]])
    )


def _are_same_in_both(known, others):
    return all([known[name] == others[name] for name in known if name in others])


def _touched(one, other):
    """Of each SCENE of one STORY, by its NAME, whether it, or one WOVEN there, is another one in the other."""
    others = scenes_by_name(other)
    changed = {scene[0]: others.get(scene[0]) != scene for scene in one[5]}
    return {name: any([changed[inner] for inner in (name, *woven_at(one, name))]) for name in changed}
