"""What SUMS are worth."""

from forktales.facts import Facts
from forktales.meanings import worth_by
from forktales.tales import StoryTale


def worth_of(story, stand, amount):
    """The WORTH of a SUM at a STAND."""
    return worth_by(Facts(StoryTale(story), stand), amount)
