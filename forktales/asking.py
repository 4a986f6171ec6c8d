"""Whether TESTS are met."""

from forktales.facts import Facts
from forktales.meanings import is_met_by
from forktales.tales import StoryTale


def is_met(story, stand, test):
    """Whether a TEST is met at a STAND."""
    return is_met_by(Facts(StoryTale(story), stand), test)
