"""The fewest choices to an ENDING, with papers."""

from forktales.bounds import MOST
from forktales.errors import NoEnding
from forktales.leansteps import LeanSteps
from forktales.reaching import Reach


def endings_of(story):
    """The ENDINGS of a STORY, as they rise."""
    return tuple(sorted({scene[4] for scene in story[5] if scene[4] is not None}))


def check_ending(story, ending):
    """Refuse what is no ENDING of a STORY."""
    if ending not in endings_of(story):
        raise NoEnding(ending)


def least_row(story, ending, *, most=MOST):
    """A ROW of the fewest choices that comes to an ENDING, None where none does."""
    reach, end = _reached(story, ending, most)
    return None if end is None else reach.row_to(end)


def height_paper(story, ending, *, most=MOST):
    """("never", stands) or ("reached", row, heights) of an ENDING."""
    reach, end = _reached(story, ending, most)
    if end is None:
        return ("never", tuple(sorted(reach.come_to())))
    row = reach.row_to(end)
    # the FIRST STAND is there even of a ROW without choices
    heights = [(stand, height) for stand, height in reach.heights.items() if height < max(1, len(row))]
    return ("reached", row, tuple(sorted(heights)))


def _reached(story, ending, most):
    """All LEAN STANDS in reach, and the first of them that has the ENDING, None where none does."""
    check_ending(story, ending)
    steps = LeanSteps(story)
    reach = Reach(steps, steps.first_lean(), most)
    ends = [stand for stand in reach.come_to() if steps.ending(stand) == ending]
    return (reach, ends[0] if ends else None)
