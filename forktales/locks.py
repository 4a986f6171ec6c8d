"""LOCKS: the fewest CHOICES to be LIFTED to come to an ENDING, with papers."""

from forktales.bounds import PAIRS
from forktales.errors import NoMore
from forktales.heights import check_ending
from forktales.locksteps import LockSteps
from forktales.reaching import row_to


def lock_paper(story, ending, *, most=PAIRS):
    """("lock", lifted, row, bar) or ("none", bar) of an ENDING."""
    check_ending(story, ending)
    steps = LockSteps(story)
    ways = {steps.first_pair(): None}
    layer = [steps.first_pair()]
    bar = []
    while layer:
        end, layer, later = _gone_through(steps, ending, ways, layer)
        if end is not None:
            return ("lock", end[0], row_to(ways, end), tuple(sorted(bar)))
        bar.extend(layer)
        if len(bar) > most:
            raise NoMore(most)
        layer = later
    return ("none", tuple(sorted(bar)))


def _gone_through(steps, ending, ways, layer):
    """Go from some pairs to all with as many laid; told are the first with the ENDING, None of none, and two lists.

    These are all such pairs, and those with one more laid to which they lead. ways tells
    of each pair that is known the one ahead and the choice.
    """
    reached = []
    later = []
    level = layer
    while level:
        further = []
        for pair in level:
            if steps.ending(pair[1]) == ending:
                return (pair, reached, later)
            reached.append(pair)
            for _, choice, after in steps.steps(pair):
                if after in ways:
                    continue
                ways[after] = (pair, choice)
                if len(after[0]) > len(pair[0]):
                    later.append(after)
                else:
                    further.append(after)
        level = further
    return (None, reached, later)
