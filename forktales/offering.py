"""What is offered at a STAND."""

from forktales.grounds import ground_of
from forktales.groundruns import offers_at


def offers(story, stand, *, lifted=()):
    """The OFFERS at a STAND: triples (scene, choice, lines)."""
    return offers_at(ground_of(story), stand, lifted)
