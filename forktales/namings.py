"""The NAMINGS of a SCENE: what of the story is named in it."""

from forktales.trees import marks_of

# Sorts of leaves that name something of the story, and the sort of it.
NAMED = {
    "number": "number",
    "figure": "figure",
    "place": "place",
    "scene": "scene",
    "asked": "scene",
}


def namings_of(scene):
    """Pairs (sort, name), in the order in which they stand, each as often."""
    marks = marks_of("SCENE", scene)
    return tuple([(NAMED[sort], rest) for sort, _, rest in marks if sort in NAMED])
