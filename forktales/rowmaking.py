"""ROWS MADE ONCE of a STORY: all that is asked of it on the way, row by row.

The first three things of a row tell what it is of: a word, and a scene and a choice, None
where it is of none. No two rows begin alike.
"""

from forktales.flatrows import flat_row
from forktales.memory import first_stand
from forktales.weaving import choices_at


def story_rows(story):
    """The ROWS of a STORY."""
    numbers, places, doors, figures, digits, scenes, begin = story
    rows = [
        ("begin", None, None, begin),
        _listed("numbers", None, numbers),
        ("places", None, None, *places),
        _listed("doors", None, doors),
        _listed("figures", None, figures),
        ("digits", None, None, *digits),
        _listed("seen", None, first_stand(story)[4]),
    ]
    for scene in scenes:
        name, pieces, choices, _, ending = scene
        rows.append(("scene", name, None, ending))
        rows.append(("pieces", name, None, *flat_row("PIECES", pieces)))
        rows.append(_listed("there", name, choices_at(story, name)))
        for choice in choices:
            rows.append(("choice", name, choice[0], *flat_row("CHOICE", choice)))
    return tuple(rows)


def _listed(word, scene, things):
    """A row of all that stands in some tuples, one behind the other."""
    return (word, scene, None, *[part for thing in things for part in thing])
