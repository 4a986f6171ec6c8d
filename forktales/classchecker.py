"""Whether any thing is a CLASS PAPER."""

from forktales.leansteps import LeanSteps
from forktales.paperfaults import closed_fault
from forktales.refusing import refuse


def lets_classes(story, thing):
    """How many STANDS a CLASS PAPER has; any other thing is refused."""
    steps = LeanSteps(story)
    refuse(closed_fault(steps, thing, steps.first_lean()) if isinstance(thing, tuple) else ("shape", -1))
    return len(thing)
