"""LOCKS: the fewest CHOICES to be LIFTED to come to an ENDING, with papers."""

from forktales.bounds import PAIRS
from forktales.errors import NoMore
from forktales.heights import check_ending
from forktales.locksteps import LockSteps
from forktales.reaching import row_to


def lock_paper(story, ending, *, most=PAIRS):
    """("lock", lifted, row, bar) or ("none", bar) of an ENDING."""
    check_ending(story, ending)
    steps = LockSteps(story)
    ways = {steps.first_pair(): None}
    layer = [steps.first_pair()]
    bar = []
    while layer:
        layer, later = _gone_through(steps, ways, layer)
        ends = [pair for pair in layer if steps.ending(pair[1]) == ending]
        if ends:
            return ("lock", ends[0][0], row_to(ways, ends[0]), tuple(sorted(bar)))
        bar.extend(layer)
        if len(bar) > most:
            raise NoMore(most)
        layer = later
    return ("none", tuple(sorted(bar)))


def _gone_through(steps, ways, layer):
    """All pairs with as many laid that some come to, these too; and those with one more that all come to.

    ways tells of each pair the one ahead and the choice; pairs that it has are known.
    """
    reached = []
    later = []
    left = list(layer)
    while left:
        pair = left.pop()
        reached.append(pair)
        for _, choice, after in steps.steps(pair):
            if after not in ways:
                ways[after] = (pair, choice)
                if len(after[0]) > len(pair[0]):
                    later.append(after)
                else:
                    left.append(after)
    return reached, later
