"""Whether TESTS are met."""

from forktales.facts import facts_of
from forktales.folding import flat_marks, folded


def is_met(story, stand, test):
    """Whether a TEST is met at a STAND."""
    return folded(flat_marks("TEST", test), facts_of(story, stand))
