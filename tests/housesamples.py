"""Houses and what is looked at of them."""

from forktales.errors import LackError, TaleError
from tests.samples import choice, scene, story

FIELDS = {
    "NoReader": ("name",), "NoChoice": ("choice", "why"), "NoRow": ("k", "why"), "NoStory": ("word", "at"), "NoStep": ("number",),
}

# a: to b and c, or around; what is shown tells pia alone how often around.
HALL = story(
    scene("a", pieces=(("text", "a"), ("only", "pia", (("end",), ("text", "pst "), ("worth", ("of", "n"))))), choices=(
        choice("go", ("to", "b"), label=(("text", "go on"),)),
        choice("turn", ("to", "a"), deeds=(("set", "n", ("plus", ("of", "n"), ("num", 1))),), label=(("text", "again "), ("worth", ("of", "n")))),
        choice("shut", ("to", "c"), test=("any", ())), choice("wait", ("to", "a")),
    )),
    scene("b", pieces=(("text", "b"),), choices=(choice("home", ("to", "a")), choice("out", ("to", "c")))),
    scene("c", pieces=(("text", "c"),), ending="end"), numbers=(("n", 0, 3, 0),),
)
GO, TURN, SHUT, WAIT, HOME, OUT = ("a", "go"), ("a", "turn"), ("a", "shut"), ("a", "wait"), ("b", "home"), ("b", "out")


def without(one, pair):
    """The story without one choice."""
    rows = [(row[0], row[1], tuple(own for own in row[2] if (row[0], own[0]) != pair), *row[3:]) for row in one[5]]
    return (*one[:5], tuple(rows), one[6])


def state_of(house):
    """All that a house tells."""
    readers = house.readers_now()
    return {
        "story": house.story_now(), "row": house.row_now(), "stand": house.stand_now(), "readers": readers, "way": house.way_now(), "turn": house.turn_now(),
        "votes": house.votes_now(), "makers": house.makers_now(), "offers": house.offers_now(), "sights": {name: house.sight_of(name) for name in readers},
        "len": len(house), "text": str(house),
    }


def done(house, row):
    """("told", what a deed tells) or ("refused", the name of the refusal, its fields), by the method of the deed."""
    word, *things = row
    try:
        return ("told", getattr(house, word)(*things))
    except (TaleError, LackError) as refused:
        name = type(refused).__name__
        return ("refused", name, *(getattr(refused, field) for field in FIELDS[name]))
