"""The LOOSE ENDS of a STORY: scenes that nothing comes to."""

from forktales.lookups import scenes_by_name


def loose_ends(story):
    """The NAMES of scenes that are not come to from where the story begins, as they rise."""
    scenes = scenes_by_name(story)
    begin = story[6]
    come_to = {begin: True}
    left = [begin]
    while left:
        scene = scenes[left.pop()]
        for name in _led_to(scene):
            if name not in come_to:
                come_to[name] = True
                left.append(name)
    return tuple([name for name in scenes if name not in come_to])


def _led_to(scene):
    """The NAMES of scenes to which a SCENE leads by itself."""
    _, _, choices, woven, _ = scene
    return [name for choice in choices for name in choice[5][1:]] + list(woven)
