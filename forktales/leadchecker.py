"""Whether any thing is a LEAD PAPER."""

from forktales.leadsteps import led_over
from forktales.refusing import refuse
from forktales.sameness import are_same
from forktales.tales import StoryTale


def lets_lead(one, other, row, thing, *, table=((), ())):
    """The word of a LEAD PAPER of a ROW; any other thing is refused."""
    _, stands, why = led_over(StoryTale(other), row, table)
    refuse(_paper_fault(row, thing, stands, why))
    return thing[0]


def _paper_fault(row, thing, stands, why):
    """The word and the place by which a thing is refused; stands, why are what is so."""
    if not _is_paper(thing, len(row)):
        return ("shape", -1)
    told = thing[1]
    if not are_same(told[0], stands[0]):
        return ("first", -1)
    for j in range(1, len(told)):
        if j >= len(stands) or not are_same(told[j], stands[j]):
            return ("step", j)
    if thing[0] == "barred" and (len(stands) > len(told) or not are_same(thing[2], why)):
        return ("why", -1)
    return None


def _is_paper(thing, many):
    """Whether a thing has the shape of a paper of a ROW of so many choices."""
    if not isinstance(thing, tuple) or len(thing) not in (2, 3) or not isinstance(thing[1], tuple):
        return False
    if len(thing) == 2:
        return thing[0] == "led" and len(thing[1]) == many + 1
    return thing[0] == "barred" and 1 <= len(thing[1]) <= many
