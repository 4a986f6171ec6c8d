"""Whether any thing is a RIGHT STAND of a STORY."""

from forktales.errors import NoPaper
from forktales.standfaults import stand_fault
from forktales.tales import StoryTale


def lets_stand(story, thing):
    """True of a RIGHT STAND; any other thing is refused."""
    fault = stand_fault(StoryTale(story), thing)
    if fault is not None:
        raise NoPaper(fault[0], fault[1])
    return True


def is_right_stand(story, thing):
    """Whether a thing is a RIGHT STAND of a STORY."""
    return stand_fault(StoryTale(story), thing) is None
