"""Whether any thing is a RIGHT STAND of a STORY."""

from forktales.errors import NoPaper
from forktales.grounds import ground_of
from forktales.standfaults import stand_fault


def lets_stand(story, thing):
    """True of a RIGHT STAND; any other thing is refused."""
    fault = stand_fault(ground_of(story), thing)
    if fault is not None:
        raise NoPaper(fault[0], fault[1])
    return True


def is_right_stand(story, thing):
    """Whether a thing is a RIGHT STAND of a STORY."""
    return stand_fault(ground_of(story), thing) is None
