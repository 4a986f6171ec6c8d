"""Whether any thing is a TRAP PAPER of a STAND."""

from forktales.heights import endings_of
from forktales.leansteps import LeanSteps
from forktales.paperfaults import closed_fault, ending_fault, row_fault
from forktales.refusing import refuse
from forktales.scenekinds import is_tuple_of, is_word_pair


def lets_trap(story, stand, thing):
    """The word of a TRAP PAPER of a STAND; any other thing is refused."""
    refuse(_fault(story, stand, thing))
    return thing[0]


def _fault(story, stand, thing):
    if not isinstance(thing, tuple) or len(thing) != 2 or not isinstance(thing[1], tuple):
        return ("shape", -1)
    word, things = thing
    endings = endings_of(story)
    steps = LeanSteps(story)
    if word == "trap":
        return closed_fault(steps, things, steps.lean(stand)) or ending_fault(steps, "end", things, endings)
    if word == "way" and is_tuple_of(things, is_word_pair):
        return row_fault(steps.tale, stand, things, (), endings)
    return ("shape", -1)
