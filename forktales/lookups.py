"""The SCENES of a STORY by their names."""


def scenes_by_name(story):
    """A dict of each SCENE by its NAME, as they stand."""
    return {scene[0]: scene for scene in story[5]}
