"""STANDS without what nothing asks for any more."""

from forktales.leansteps import LeanSteps


def lean_stand(story, stand):
    """A STAND made LEAN."""
    return LeanSteps(story).lean(stand)


def are_alike(story, one, other):
    """Whether two STANDS, made LEAN, are the same."""
    if one[:2] != other[:2]:
        return False
    steps = LeanSteps(story)
    return steps.lean(one) == steps.lean(other)
