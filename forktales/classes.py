"""All LEAN STANDS in reach, and LEAN STEPS."""

from forktales.bounds import MOST
from forktales.leansteps import LeanSteps
from forktales.reaching import Reach


def lean_stands(story, *, most=MOST):
    """Pairs of all LEAN STANDS in reach and their HEIGHTS, rising; refused where they are more than most."""
    steps = LeanSteps(story)
    reach = Reach(steps, steps.first_lean(), most)
    return tuple(sorted(list(reach.heights.items())))


def lean_step(story, stand, choice, *, lifted=()):
    """The STAND made LEAN to which a choice leads; refused where it is BARRED."""
    return LeanSteps(story).step(stand, choice, lifted)
