"""What is remembered at a STAND, by names."""


class Facts:
    """A STAND with its numbers, WHERES and counts by names; DEEDS change it."""

    def __init__(self, numbers, figures, stand, reader=None):
        scene, stack, amounts, wheres, seen, made, digit = stand
        self.scene = scene
        self.stack = stack
        self.numbers = dict(zip(numbers, amounts))
        self.wheres = dict(zip(figures, wheres))
        self.seen = dict(seen)
        self.made = made
        self.digit = digit
        self.reader = reader

    def as_stand(self):
        """The STAND that this has become."""
        numbers = tuple(self.numbers.values())
        wheres = tuple(self.wheres.values())
        seen = tuple(self.seen.items())
        return (self.scene, self.stack, numbers, wheres, seen, self.made, self.digit)


def facts_of(story, stand):
    """The Facts of a STAND of a STORY."""
    numbers = [number[0] for number in story[0]]
    figures = [figure[0] for figure in story[3]]
    return Facts(numbers, figures, stand)
