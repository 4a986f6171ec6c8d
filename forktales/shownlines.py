"""What is shown at a STAND."""

from forktales.taleruns import lines_shown_at
from forktales.tales import StoryTale


def shown(story, stand, *, reader=None):
    """The LINES that a reader, or None, is SHOWN at a STAND."""
    return lines_shown_at(StoryTale(story), stand, reader)
