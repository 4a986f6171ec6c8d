"""ROWS MADE ONCE of a STORY: all that is asked of it on the way, row by row."""

from forktales.folding import flat_marks
from forktales.memory import first_stand
from forktales.weaving import choices_at


def story_rows(story):
    """The ROWS of a STORY: each begins with a word that tells what it is of."""
    numbers, places, doors, figures, digits, scenes, begin = story
    rows = [("begin", begin)]
    rows.extend([("number", *number) for number in numbers])
    rows.extend([("place", place) for place in places])
    rows.extend([("door", *door) for door in doors])
    rows.extend([("figure", *figure) for figure in figures])
    rows.extend([("digit", digit) for digit in digits])
    rows.extend([("asked", *pair) for pair in first_stand(story)[4]])
    for scene in scenes:
        rows.extend(_scene_rows(scene, choices_at(story, scene[0])))
    return tuple(rows)


def _scene_rows(scene, choices_there):
    name, pieces, choices, _, ending = scene
    rows = [("scene", name, ending), _marked(("pieces", name), "PIECES", pieces)]
    rows.extend([("at", name, *pair) for pair in choices_there])
    for choice in choices:
        rows.extend(_choice_rows(name, choice))
    return rows


def _choice_rows(scene, choice):
    name, label, test, once, deeds, leads = choice
    rows = [
        ("choice", scene, name, once, *leads),
        _marked(("label", scene, name), "BITS", label),
        _marked(("test", scene, name), "TEST", test),
    ]
    rows.extend([_marked(("deed", scene, name), "DEED", deed) for deed in deeds])
    return rows


def _marked(head, sort, part):
    """A row of what it is of, and the marks of a part, one behind the other."""
    marks = [thing for mark in flat_marks(sort, part) for thing in mark]
    return (*head, *marks)
