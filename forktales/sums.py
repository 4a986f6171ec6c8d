"""What SUMS are worth."""

from forktales.facts import facts_of
from forktales.folding import flat_marks, folded


def worth_of(story, stand, amount):
    """The WORTH of a SUM at a STAND."""
    return folded(flat_marks("SUM", amount), facts_of(story, stand))
