"""What is remembered at first, and the PLACES of figures."""

from forktales.weaving import asked_scenes


def first_stand(story):
    """The FIRST STAND of a STORY."""
    return stand_at_first(story, asked_scenes(story))


def stand_at_first(story, asked):
    """The FIRST STAND of a STORY; asked are the NAMES of the SCENES that are ASKED."""
    numbers, _, _, figures, _, _, begin = story
    firsts = tuple([first for _, _, _, first in numbers])
    wheres = tuple([("at", place) for _, place in figures])
    seen = tuple([(name, 1 if name == begin else 0) for name in asked])
    return (begin, (), firsts, wheres, seen, (), 0)


def place_of(story, stand, figure):
    """The PLACE of a figure at a STAND."""
    names = [name for name, _ in story[3]]
    return place_in(dict(zip(names, stand[3])), figure)


def place_in(wheres, figure):
    """The PLACE of a figure; wheres is a dict of each figure's WHERE by its name."""
    last = chain_from(wheres, figure)[-1]
    return wheres[last][1]


def chain_from(wheres, figure):
    """A figure, the one that it is with, and so on: a list."""
    chain = [figure]
    while wheres[chain[-1]][0] == "with":
        chain.append(wheres[chain[-1]][1])
    return chain
