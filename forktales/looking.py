"""LOOKS: what SCENES name that isn't there; kept over edits for those that need no new one."""

from forktales.lookups import scenes_by_name
from forktales.namings import namings_of
from forktales.presence import namings_there


def looks_of(story):
    """Pairs of each SCENE's NAME and its LOOK."""
    there = namings_there(story)
    return tuple([(scene[0], _look(namings_of(scene), there)) for scene in story[5]])


def looks_kept(one, other, *, looks):
    """The LOOKS of another STORY by those of the one; and the NAMES of SCENES looked at ANEW."""
    kept = dict(looks)
    ones = scenes_by_name(one)
    there = namings_there(one)
    other_there = namings_there(other)
    other_looks = []
    anew = []
    for scene in other[5]:
        name = scene[0]
        namings = namings_of(scene)
        if ones.get(name) != scene or any([(naming in there) != (naming in other_there) for naming in namings]):
            anew.append(name)
            other_looks.append((name, _look(namings, other_there)))
        else:
            other_looks.append((name, kept[name]))
    return (tuple(other_looks), tuple(anew))


def _look(namings, there):
    """The LOOK of a SCENE with such NAMINGS, where these are there."""
    return tuple(sorted({naming for naming in namings if naming not in there}))
