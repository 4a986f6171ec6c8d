"""Whether any thing is a HEIGHT PAPER of an ENDING."""

from forktales.heights import check_ending
from forktales.leansteps import LeanSteps
from forktales.paperfaults import closed_fault, ending_fault, row_fault, stands_fault
from forktales.refusing import refuse
from forktales.scenekinds import is_tuple_of, is_word_pair
from forktales.talekinds import is_number


def lets_height(story, ending, thing):
    """How many choices the ROW of a HEIGHT PAPER has, None of "never"; any other thing is refused."""
    check_ending(story, ending)
    steps = LeanSteps(story)
    if _is_never(thing):
        stands = thing[1]
        refuse(closed_fault(steps, stands, steps.first_lean()) or ending_fault(steps, "sooner", stands, (ending,)))
        return None
    refuse(_reached_fault(steps, ending, thing) if _is_reached(thing) else ("shape", -1))
    return len(thing[1])


def _is_never(thing):
    return isinstance(thing, tuple) and len(thing) == 2 and thing[0] == "never" and isinstance(thing[1], tuple)


def _is_reached(thing):
    if not isinstance(thing, tuple) or len(thing) != 3 or thing[0] != "reached":
        return False
    return is_tuple_of(thing[1], is_word_pair) and is_tuple_of(thing[2], _is_height_pair)


def _is_height_pair(thing):
    return isinstance(thing, tuple) and len(thing) == 2 and is_number(thing[1]) and thing[1] >= 0


def _reached_fault(steps, ending, thing):
    """The fault of what has the shape of a ROW that comes to an ENDING, and HEIGHTS."""
    _, row, pairs = thing
    tale = steps.tale
    fault = row_fault(tale, tale.first(), row, (), (ending,)) or stands_fault(steps, [stand for stand, _ in pairs])
    if fault is not None:
        return fault
    heights = dict(pairs)
    if heights.get(steps.first_lean()) != 0:
        return ("first", -1)
    for k, (stand, height) in enumerate(pairs):
        if height < len(row) and steps.ending(stand) == ending:
            return ("sooner", k)
        j = _far_step(steps, heights, stand) if height + 1 < len(row) else None
        if j is not None:
            return ("step", (k, j))
    return None


def _far_step(steps, heights, stand):
    """The number of the first OFFER at a STAND that leads to none with a HEIGHT, or to one more than 1 above."""
    for j, (_, after) in enumerate(steps.steps(stand)):
        if after not in heights or heights[after] > heights[stand] + 1:
            return j
    return None
