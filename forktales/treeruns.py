"""What rows of choices run through."""

from forktales.taleruns import stands_run
from forktales.tales import StoryTale


def run(story, row, *, begin=None, lifted=()):
    """The STANDS on the way of a row of choices; refused at the first that is BARRED."""
    return stands_run(StoryTale(story), row, begin, lifted)
