"""Whether any thing is a RIGHT STAND of a STORY."""

from forktales.refusing import refuse
from forktales.standfaults import stand_fault
from forktales.tales import StoryTale


def lets_stand(story, thing):
    """True of a RIGHT STAND; any other thing is refused."""
    refuse(stand_fault(StoryTale(story), thing))
    return True


def is_right_stand(story, thing):
    """Whether a thing is a RIGHT STAND of a STORY."""
    return stand_fault(StoryTale(story), thing) is None
