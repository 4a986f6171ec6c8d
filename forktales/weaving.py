"""What of a WHOLE STORY is ASKED, and what is WOVEN where."""

from forktales.errors import NoScene
from forktales.lookups import scenes_by_name
from forktales.trees import marks_of


def asked_scenes(story):
    """The NAMES of scenes that are ASKED, as they rise."""
    marks = [mark for scene in story[5] for mark in marks_of("SCENE", scene)]
    return tuple(sorted({rest for sort, _, rest in marks if sort == "asked"}))


def woven_at(story, name):
    """The NAMES of scenes WOVEN at a SCENE, in the order in which they are come to."""
    scenes = scenes_by_name(story)
    if name not in scenes:
        raise NoScene(name)
    come_to = []
    left = list(scenes[name][3][::-1])
    while left:
        other = left.pop()
        if other != name and other not in come_to:
            come_to.append(other)
            left.extend(scenes[other][3][::-1])
    return tuple(come_to)


def choices_at(story, name):
    """The CHOICES AT a SCENE, pairs (scene, choice): its own, then those of WOVEN ones."""
    woven = woven_at(story, name)
    scenes = scenes_by_name(story)
    return tuple([(other, choice[0]) for other in (name, *woven) for choice in scenes[other][2]])
