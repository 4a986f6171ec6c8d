"""What is LIVE: asked for by a SCENE, or by one that it leads to."""

from forktales.errors import NoScene
from forktales.inners import parts_of_choice, parts_within
from forktales.tales import StoryTale
from forktales.weaving import asked_scenes

# Words of what asks where figures are, or moves them.
FIGURE_WORDS = ("at", "with", "place", "go", "put", "join", "leave")


def things_of(story):
    """The THINGS that a STORY remembers, as they rise."""
    numbers, _, _, figures, digits, scenes, _ = story
    things = [("num", number[0]) for number in numbers]
    things.extend([("seen", name) for name in asked_scenes(story)])
    things.extend([("made", scene[0], choice[0]) for scene in scenes for choice in scene[2] if choice[3]])
    if figures:
        things.append(("figures",))
    if digits:
        things.append(("digit",))
    return tuple(sorted(things))


def live_things(story, scene):
    """The THINGS that are LIVE of a SCENE, as they rise."""
    tale = StoryTale(story)
    if not tale.has_scene(scene):
        raise NoScene(scene)
    return tuple(sorted(Living(tale).live_of([scene])))


class Living:
    """What is LIVE of SCENES of a STORY; what asks for it is looked for when a SCENE is first come to."""

    def __init__(self, tale):
        self.tale = tale
        self.by_choice = {}
        self.by_scene = {}

    def live_of(self, names):
        """What is LIVE of some SCENES, a dict of True."""
        come_to = {name: True for name in names}
        left = list(come_to)
        live = {}
        while left:
            name = left.pop()
            live.update(self._reads(name))
            for scene in self._leads(name):
                if scene not in come_to:
                    come_to[scene] = True
                    left.append(scene)
        return live

    def _open_choices(self, name):
        """The pairs of the CHOICES AT a SCENE, none where it has an ending."""
        return self.tale.there(name) if self.tale.ending(name) is None else ()

    def _leads(self, name):
        """The SCENES to which CHOICES AT a SCENE lead."""
        return [scene for pair in self._open_choices(name) for scene in self.tale.choice_of(pair)[5][1:]]

    def _reads(self, name):
        """What a SCENE READS, a dict of True."""
        if name not in self.by_scene:
            reads = _asked_by([self.tale.pieces(name)], self.tale.digits)
            for pair in self._open_choices(name):
                reads.update(self._asked_by_choice(pair))
            self.by_scene[name] = reads
        return self.by_scene[name]

    def _asked_by_choice(self, pair):
        """What a CHOICE asks for: its label, its TEST, its DEEDS, and whether it was made, if it is once."""
        if pair not in self.by_choice:
            choice = self.tale.choice_of(pair)
            asked = _asked_by(parts_of_choice(choice), self.tale.digits)
            if choice[3]:
                scene, name = pair
                asked["made", scene, name] = True
            self.by_choice[pair] = asked
        return self.by_choice[pair]


def _asked_by(parts, digits):
    """What some parts, and those in them, ask for, a dict of True."""
    inner = parts_within(parts)
    asked = {("num", part[1]): True for part in inner if part[0] == "of"}
    asked.update({("seen", part[1]): True for part in inner if part[0] == "seen"})
    words = {part[0]: True for part in inner if isinstance(part[0], str)}
    if any([word in words for word in FIGURE_WORDS]):
        asked[("figures",)] = True
    if "draw" in words and digits:
        asked[("digit",)] = True
    return asked
