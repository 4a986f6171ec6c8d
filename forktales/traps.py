"""STANDS that no ending can be come to from, with papers."""

from forktales.bounds import MOST
from forktales.leansteps import LeanSteps
from forktales.reaching import Reach


def stuck_stands(story, *, most=MOST):
    """The LEAN STANDS in reach without an ending and without OFFERS, rising."""
    steps = LeanSteps(story)
    reach = Reach(steps, steps.first_lean(), most)
    return tuple(sorted([stand for stand in reach.come_to() if not reach.steps(stand) and steps.ending(stand) is None]))


def trap_stands(story, *, most=MOST):
    """The LEAN STANDS in reach from which no CHOICES OFFERED in turn come to an ending, rising."""
    steps = LeanSteps(story)
    reach = Reach(steps, steps.first_lean(), most)
    free = _free_stands(steps, reach)
    return tuple(sorted([stand for stand in reach.come_to() if stand not in free]))


def trap_paper(story, stand, *, most=MOST):
    """("trap", stands) or ("way", row) of a STAND."""
    steps = LeanSteps(story)
    reach = Reach(steps, steps.lean(stand), most)
    ends = [end for end in reach.come_to() if steps.ending(end) is not None]
    return ("way", reach.row_to(ends[0])) if ends else ("trap", tuple(sorted(reach.come_to())))


def _free_stands(steps, reach):
    """The STANDS from which an ending is come to, a dict of True."""
    ahead = {stand: [] for stand in reach.come_to()}
    for stand in reach.come_to():
        for _, after in reach.steps(stand):
            ahead[after].append(stand)
    left = [stand for stand in reach.come_to() if steps.ending(stand) is not None]
    free = {stand: True for stand in left}
    while left:
        last = left.pop()
        for stand in ahead[last]:
            if stand not in free:
                free[stand] = True
                left.append(stand)
    return free
