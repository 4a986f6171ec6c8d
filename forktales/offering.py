"""What is offered at a STAND."""

from forktales.taleruns import offers_at
from forktales.tales import StoryTale


def offers(story, stand, *, lifted=()):
    """The OFFERS at a STAND: triples (scene, choice, lines)."""
    return offers_at(StoryTale(story), stand, lifted)
