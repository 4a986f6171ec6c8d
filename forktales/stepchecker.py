"""Whether any thing is the STAND to which a CHOICE leads."""

from forktales.outcomes import outcome
from forktales.refusing import refuse
from forktales.standkinds import is_stand
from forktales.tales import StoryTale


def lets_made(story, stand, choice, thing):
    """True of the STAND that is MADE; any other thing is refused."""
    refuse(_fault(story, stand, choice, thing))
    return True


def _fault(story, stand, choice, thing):
    if not is_stand(thing):
        return ("shape", -1)
    bar, after = outcome(StoryTale(story), stand, choice, ())
    if bar is not None:
        return ("barred", -1)
    for j in range(len(after)):
        if thing[j] != after[j]:
            return ("part", j)
    return None
