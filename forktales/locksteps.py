"""Steps with CHOICES LIFTED one by one: through pairs (laid, STAND) of what was LIFTED and a LEAN STAND."""

from forktales.leansteps import LeanSteps
from forktales.outcomes import outcome


class LockSteps:
    """A STORY made ready for many such steps; what is OFFERED at a STAND is looked for once."""

    def __init__(self, story):
        self.lean_steps = LeanSteps(story)
        self.steps_by_stand = {}

    def first_pair(self):
        """Nothing laid, and the FIRST STAND made LEAN."""
        return ((), self.lean_steps.first_lean())

    def ending(self, stand):
        """The ending of a STAND's SCENE, or None."""
        return self.lean_steps.ending(stand)

    def steps(self, pair):
        """From a pair (laid, STAND) the steps by each choice that is OFFERED there with all LIFTED.

        A list of (j, choice, pair), j its number among the CHOICES AT the SCENE; the
        choice is laid in the pair behind it, if its TEST isn't met and it wasn't yet.
        """
        laid, stand = pair
        if stand not in self.steps_by_stand:
            self.steps_by_stand[stand] = self._open_steps(stand)
        steps = []
        for j, choice, is_met, after in self.steps_by_stand[stand]:
            laid_then = laid if is_met or choice in laid else tuple(sorted([*laid, choice]))
            steps.append((j, choice, (laid_then, after)))
        return steps

    def _open_steps(self, stand):
        """Of each choice that is OFFERED with all LIFTED: its number, it, whether its TEST is met, the LEAN STEP."""
        steps = []
        tale = self.lean_steps.tale
        for j, choice in enumerate(tale.there(stand[0])):
            bar, after = outcome(tale, stand, choice, ())
            is_met = bar != "test"
            if not is_met:
                bar, after = outcome(tale, stand, choice, (choice,))
            if bar is None:
                steps.append((j, choice, is_met, self.lean_steps.lean(after)))
        return steps
