"""All that is in reach of a first STAND, level by level."""

from forktales.errors import NoMore


class Reach:
    """The STANDS in reach of a first one by some steps, in the order in which they are come to.

    Refused where they are more than most.
    """

    def __init__(self, steps, first, most):
        self.ways = {first: None}
        self.heights = {first: 0}
        self.steps_by_stand = {}
        level = [first]
        while level:
            level = self._go_on(steps, level, most)

    def come_to(self):
        """All STANDS that are come to, a list: those of less HEIGHT ahead."""
        return list(self.ways)

    def steps(self, stand):
        """Each choice that is OFFERED at a STAND, and the STAND to which it leads: a list of pairs."""
        return self.steps_by_stand[stand]

    def row_to(self, stand):
        """A ROW of the fewest choices from the first STAND to one."""
        return row_to(self.ways, stand)

    def _go_on(self, steps, level, most):
        """Come from the STANDS of one HEIGHT to those of the next one, a list."""
        later = []
        for stand in level:
            if len(self.ways) > most:
                raise NoMore(most)
            self.steps_by_stand[stand] = steps.steps(stand)
            for choice, after in self.steps_by_stand[stand]:
                if after not in self.ways:
                    self.ways[after] = (stand, choice)
                    self.heights[after] = self.heights[stand] + 1
                    later.append(after)
        return later


def row_to(ways, end):
    """The choices that come to an end; ways tells of each the one ahead and the choice, None of the first."""
    choices = []
    while ways[end] is not None:
        end, choice = ways[end]
        choices.append(choice)
    return tuple(choices[::-1])
