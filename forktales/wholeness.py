"""Whether any thing is a WHOLE STORY."""

from forktales.errors import NoStory
from forktales.namings import namings_of
from forktales.presence import namings_there
from forktales.scenekinds import is_story


def is_whole(thing):
    """Whether a thing is a WHOLE STORY."""
    return _fault(thing) is None


def lets_whole(thing):
    """True of a WHOLE STORY; any other thing is refused."""
    fault = _fault(thing)
    if fault is not None:
        raise NoStory(fault[0], fault[1])
    return True


def _fault(thing):
    """The word and the place of the first by which a thing is no WHOLE STORY."""
    if not is_story(thing):
        return ("shape", -1)
    _, places, doors, figures, _, scenes, begin = thing
    for k, (one, other) in enumerate(doors):
        if one not in places or other not in places:
            return ("door", k)
    for k, (_, place) in enumerate(figures):
        if place not in places:
            return ("figure", k)
    there = namings_there(thing)
    if ("scene", begin) not in there:
        return ("begin", -1)
    for k, scene in enumerate(scenes):
        for j, naming in enumerate(namings_of(scene)):
            if naming not in there:
                return (naming[0], (k, j))
    return None
