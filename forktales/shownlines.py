"""What is shown at a STAND."""

from forktales.grounds import ground_of
from forktales.groundruns import lines_shown_at


def shown(story, stand, *, reader=None):
    """The LINES that a reader, or None, is SHOWN at a STAND."""
    return lines_shown_at(ground_of(story), stand, reader)
