"""What of a WHOLE STORY is ASKED, and what is WOVEN where."""

from forktales.errors import NoScene
from forktales.inners import parts_of_choice, parts_within
from forktales.lookups import scenes_by_name


def asked_scenes(story):
    """The NAMES of scenes that are ASKED, as they rise."""
    parts = []
    for scene in story[5]:
        parts.append(scene[1])
        for choice in scene[2]:
            parts.extend(parts_of_choice(choice))
    return tuple(sorted({part[1] for part in parts_within(parts) if part[0] == "seen"}))


def woven_at(story, name):
    """The NAMES of scenes WOVEN at a SCENE, in the order in which they are come to."""
    scenes = scenes_by_name(story)
    if name not in scenes:
        raise NoScene(name)
    return tuple(_woven_in(scenes, name))


def choices_at(story, name):
    """The CHOICES AT a SCENE, pairs (scene, choice): its own, then those of WOVEN ones."""
    scenes = scenes_by_name(story)
    if name not in scenes:
        raise NoScene(name)
    return choices_in(scenes, name)


def choices_in(scenes, name):
    """The CHOICES AT a SCENE; scenes is a dict of SCENES by their NAMES."""
    return tuple([
        (other, choice[0])
        for other in [name, *_woven_in(scenes, name)]
        for choice in scenes[other][2]
    ])


def _woven_in(scenes, name):
    come_to = []
    left = list(scenes[name][3][::-1])
    while left:
        other = left.pop()
        if other != name and other not in come_to:
            come_to.append(other)
            left.extend(scenes[other][3][::-1])
    return come_to
