"""All STANDS in reach."""

from forktales.bounds import MOST
from forktales.outcomes import steps_from
from forktales.reaching import Reach
from forktales.tales import StoryTale


def all_stands(story, *, most=MOST):
    """Pairs of all STANDS in reach and their HEIGHTS, rising; refused where they are more than most."""
    tale = StoryTale(story)
    reach = Reach(PlainSteps(tale), tale.first(), most)
    return tuple(sorted(list(reach.heights.items())))


class PlainSteps:
    """The steps from STANDS as they are, not made LEAN."""

    def __init__(self, tale):
        self.tale = tale

    def steps(self, stand):
        """Each choice that is OFFERED, and the STAND to which it leads: a list of pairs."""
        return steps_from(self.tale, stand, ())
