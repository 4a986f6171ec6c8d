"""The SKELETON of a STORY: all but what is shown."""


def skeleton_of(story):
    """The STORY with () for all PIECES and labels."""
    numbers, places, doors, figures, digits, scenes, begin = story
    bare = tuple([_bare_scene(scene) for scene in scenes])
    return (numbers, places, doors, figures, digits, bare, begin)


def _bare_scene(scene):
    name, _, choices, woven, ending = scene
    bare = tuple([(choice[0], (), *choice[2:]) for choice in choices])
    return (name, (), bare, woven, ending)
