"""What is remembered at a STAND, by names."""


class Facts:
    """A STAND with its numbers, WHERES and counts by names; DEEDS change it."""

    def __init__(self, tale, stand):
        scene, stack, amounts, wheres, seen, made, digit = stand
        self.scene = scene
        self.stack = stack
        self.numbers = dict(zip(tale.bounds, amounts))
        self.wheres = dict(zip(tale.figures, wheres))
        self.seen = dict(seen)
        self.made = made
        self.digit = digit

    def as_stand(self):
        """The STAND that this has become."""
        numbers = tuple(self.numbers.values())
        wheres = tuple(self.wheres.values())
        seen = tuple(self.seen.items())
        return (self.scene, self.stack, numbers, wheres, seen, self.made, self.digit)
