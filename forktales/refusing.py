"""Refusals of checkers, by a fault: the word and the place by which a thing is refused."""

from forktales.errors import NoPaper


def refuse(fault):
    """Refuse a thing by its fault; None is none."""
    if fault is not None:
        raise NoPaper(fault[0], fault[1])
