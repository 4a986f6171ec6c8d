"""What bars a choice, and what is made by it."""

from forktales.outcomes import made_at, outcome
from forktales.tales import StoryTale


def barred(story, stand, choice, *, lifted=()):
    """By what a choice is BARRED at a STAND, None where it is OFFERED."""
    bar, _ = outcome(StoryTale(story), stand, choice, lifted)
    return bar


def made(story, stand, choice, *, lifted=()):
    """The STAND to which a choice leads; refused where it is BARRED."""
    return made_at(StoryTale(story), stand, choice, lifted)
