"""Pairs of LEAN STANDS of two STORIES, and the steps from one to the next by a TABLE."""

from forktales.leansteps import LeanSteps
from forktales.tables import choice_call


class PairSteps:
    """Two STORIES and a TABLE made ready for many steps."""

    def __init__(self, one, other, table):
        self.one = LeanSteps(one)
        self.other = LeanSteps(other)
        self.calls = {choice: choice_call(table, choice) for choice in self.one.tale.choices()}

    def first_pair(self):
        """The pair of both FIRST STANDS made LEAN."""
        return (self.one.first_lean(), self.other.first_lean())

    def look(self, pair):
        """By what two STANDS part, None where they do not; and the steps from there.

        Steps are pairs of each choice that is OFFERED, in order, and the pair to which it
        and its call lead.
        """
        one, other = pair
        if self.one.ending(one) != self.other.ending(other):
            return ("ending", [])
        steps = [(choice, self.calls[choice], after) for choice, after in self.one.steps(one)]
        others = dict(self.other.steps(other))
        if len(steps) != len(others) or not all([call in others for _, call, _ in steps]):
            return ("offers", [])
        return (None, [(choice, (after, others[call])) for choice, call, after in steps])
