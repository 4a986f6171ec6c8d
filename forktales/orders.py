"""Whether things rise, and whether they are unlike."""


def rises(things):
    """Whether each thing is above the one ahead of it."""
    return all([low < high for low, high in zip(things, things[1:])])


def unlike(things):
    """Whether no thing is there twice; things are words or tuples of words."""
    return len(set(things)) == len(things)
