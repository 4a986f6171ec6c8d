"""STANDS that no ending can be come to from, with papers."""

from forktales.bounds import MOST
from forktales.leansteps import LeanSteps
from forktales.reaching import Reach


def stuck_stands(story, *, most=MOST):
    """The LEAN STANDS in reach without an ending and without OFFERS, rising."""
    steps = LeanSteps(story)
    reach = Reach(steps, steps.first_lean(), most)
    return tuple(sorted([stand for stand in reach.stands() if not reach.steps(stand) and steps.ending(stand) is None]))


def trap_stands(story, *, most=MOST):
    """The LEAN STANDS in reach from which no CHOICES OFFERED in turn come to an ending, rising."""
    steps = LeanSteps(story)
    reach = Reach(steps, steps.first_lean(), most)
    free = _free_stands(steps, reach)
    return tuple(sorted([stand for stand in reach.stands() if stand not in free]))


def trap_paper(story, stand, *, most=MOST):
    """("trap", stands) or ("way", row) of a STAND."""
    steps = LeanSteps(story)
    reach = Reach(steps, steps.lean(stand), most)
    ends = [end for end in reach.stands() if steps.ending(end) is not None]
    return ("way", reach.row_to(ends[0])) if ends else ("trap", tuple(sorted(reach.stands())))


def _free_stands(steps, reach):
    """The STANDS from which an ending is come to, a dict of True."""
    ahead = {stand: [] for stand in reach.stands()}
    for stand in reach.stands():
        for _, after in reach.steps(stand):
            ahead[after].append(stand)
    left = [stand for stand in reach.stands() if steps.ending(stand) is not None]
    free = {stand: True for stand in left}
    while left:
        for stand in ahead[left.pop()]:
            if stand not in free:
                free[stand] = True
                left.append(stand)
    return free
