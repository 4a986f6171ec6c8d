"""LEAN STANDS of a STORY, and the steps from one to the next."""

from forktales.grounds import ground_of
from forktales.living import live_by_scene
from forktales.outcomes import steps_from
from forktales.standfaults import stand_fault


class LeanSteps:
    """A STORY made ready for many steps."""

    def __init__(self, story):
        self.ground = ground_of(story)
        self.live = live_by_scene(story)

    def first_lean(self):
        """The FIRST STAND made LEAN."""
        return self.lean(self.ground.first)

    def lean(self, stand):
        """A STAND made LEAN."""
        scene, stack, numbers, wheres, seen, made, digit = stand
        _, _, first_numbers, first_wheres, first_seen, _, first_digit = self.ground.first
        live = {thing: True for name in (scene, *stack) for thing in self.live[name]}
        names = list(self.ground.bounds)
        return (
            scene,
            stack,
            tuple([
                amount if ("num", name) in live else first
                for name, amount, first in zip(names, numbers, first_numbers)
            ]),
            wheres if ("figures",) in live else first_wheres,
            tuple([
                pair if ("seen", pair[0]) in live else first
                for pair, first in zip(seen, first_seen)
            ]),
            tuple([pair for pair in made if ("made", *pair) in live]),
            digit if ("digit",) in live else first_digit,
        )

    def is_right_lean(self, thing):
        """Whether any thing is a RIGHT STAND that is LEAN."""
        return stand_fault(self.ground, thing) is None and self.lean(thing) == thing

    def steps(self, stand):
        """Each choice that is OFFERED, and the STAND made LEAN to which it leads: a list of pairs."""
        return [(choice, self.lean(after)) for choice, after in steps_from(self.ground, stand, ())]
