"""All LINES that are ever shown."""

from forktales.bounds import MOST
from forktales.inners import parts_within
from forktales.leansteps import LeanSteps
from forktales.reaching import Reach
from forktales.taleruns import lines_shown_at


def lines_shown(story, *, most=MOST):
    """Pairs of each LINE and a ROW of the fewest choices that comes to where it is shown, rising."""
    steps = LeanSteps(story)
    reach = Reach(steps, steps.first_lean(), most)
    readers = [None, *_readers_of(story)]
    stands = {}
    for stand in reach.come_to():
        for reader in readers:
            for line in lines_shown_at(steps.tale, stand, reader):
                stands.setdefault(line, stand)
    return tuple(sorted([(line, reach.row_to(stands[line])) for line in stands]))


def _readers_of(story):
    """The readers of what is for one reader alone, as they rise."""
    parts = parts_within([scene[1] for scene in story[5]])
    return sorted({part[1] for part in parts if part[0] == "only"})
