"""Whether two STORIES go ALIKE, or by which ROW they part."""

from forktales.bounds import PAIRS
from forktales.errors import NoMore
from forktales.pairsteps import PairSteps
from forktales.reaching import row_to


def alike_or_parted(one, other, *, table=((), ()), most=PAIRS):
    """("alike", pairs) or ("parted", row); refused where more than most pairs come in."""
    steps = PairSteps(one, other, table)
    first = steps.first_pair()
    ways = {first: None}
    parting = None
    level = [first]
    while level:
        later = []
        for pair in level:
            if len(ways) > most:
                raise NoMore(most)
            fault, next_steps = steps.look(pair)
            if fault is not None and parting is None:
                parting = pair
            for choice, after in next_steps:
                if after not in ways:
                    ways[after] = (pair, choice)
                    later.append(after)
        level = later
    return ("alike", tuple(sorted(ways))) if parting is None else ("parted", row_to(ways, parting))
