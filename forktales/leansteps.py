"""LEAN STANDS of a STORY, and the steps from one to the next."""

from forktales.living import Living
from forktales.memory import stand_at_first
from forktales.outcomes import made_at, steps_from
from forktales.standfaults import stand_fault
from forktales.tales import StoryTale


class LeanSteps:
    """A STORY made ready for many steps."""

    def __init__(self, story):
        self.tale = StoryTale(story)
        self.living = Living(self.tale)
        self.kept = {}

    def first_lean(self):
        """The FIRST STAND made LEAN."""
        return self.lean(self.tale.first())

    def lean(self, stand):
        """A STAND made LEAN."""
        scene, stack, numbers, wheres, seen, made, digit = stand
        live, numbers_kept, seen_kept, first = self._kept(stand)
        _, _, first_numbers, first_wheres, first_seen, _, first_digit = first
        return (
            scene,
            stack,
            tuple([now if is_kept else old for now, old, is_kept in zip(numbers, first_numbers, numbers_kept)]),
            wheres if ("figures",) in live else first_wheres,
            tuple([now if is_kept else old for now, old, is_kept in zip(seen, first_seen, seen_kept)]),
            tuple([pair for pair in made if ("made", *pair) in live]),
            digit if ("digit",) in live else first_digit,
        )

    def is_lean(self, stand):
        """Whether a RIGHT STAND is LEAN."""
        return self.lean(stand) == stand

    def is_right_lean(self, thing):
        """Whether any thing is a RIGHT STAND that is LEAN."""
        return stand_fault(self.tale, thing) is None and self.is_lean(thing)

    def ending(self, stand):
        """The ending of a STAND's SCENE, or None."""
        return self.tale.ending(stand[0])

    def step(self, stand, choice, lifted):
        """The STAND made LEAN to which a choice leads; refused where it is BARRED."""
        return self.lean(made_at(self.tale, stand, choice, lifted))

    def steps(self, stand):
        """Each choice that is OFFERED, and the STAND made LEAN to which it leads: a list of pairs."""
        return [(choice, self.lean(after)) for choice, after in steps_from(self.tale, stand, ())]

    def _kept(self, stand):
        """What is LIVE of a STAND; whether each number, each count is; and the FIRST STAND.

        Which SCENES are ASKED is told by the STAND, so the STORY need not be gone through.
        """
        names = (stand[0], *stand[1])
        if names not in self.kept:
            live = self.living.live_of(names)
            asked = [name for name, _ in stand[4]]
            numbers = [("num", name) in live for name in self.tale.bounds]
            seen = [("seen", name) in live for name in asked]
            self.kept[names] = (live, numbers, seen, stand_at_first(self.tale.story, asked))
        return self.kept[names]
