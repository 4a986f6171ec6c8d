"""What is LIVE: asked for by a SCENE, or by one that it leads to."""

from forktales.errors import NoScene
from forktales.lookups import scenes_by_name
from forktales.trees import marks_of
from forktales.weaving import asked_scenes, choices_at

# Words of what asks where figures are, or moves them.
FIGURE_WORDS = ("at", "with", "place", "go", "put", "join", "leave")


def things_of(story):
    """The THINGS that a STORY remembers, as they rise."""
    numbers, _, _, figures, digits, scenes, _ = story
    things = [("num", number[0]) for number in numbers]
    things.extend([("seen", name) for name in asked_scenes(story)])
    things.extend([("made", scene[0], choice[0]) for scene in scenes for choice in scene[2] if choice[3]])
    if figures:
        things.append(("figures",))
    if digits:
        things.append(("digit",))
    return tuple(sorted(things))


def live_things(story, scene):
    """The THINGS that are LIVE of a SCENE, as they rise."""
    live = live_by_scene(story)
    if scene not in live:
        raise NoScene(scene)
    return live[scene]


def live_by_scene(story):
    """A dict of what is LIVE of each SCENE, by its NAME."""
    scenes = scenes_by_name(story)
    choices = {(scene, choice[0]): choice for scene in scenes for choice in scenes[scene][2]}
    asks = {pair: _asked_by_choice(pair, choices[pair], story[4]) for pair in choices}
    reads = {}
    leads = {}
    for name in scenes:
        pairs = choices_at(story, name) if scenes[name][4] is None else ()
        own = _asked_by(marks_of("PIECES", scenes[name][1]), story[4])
        reads[name] = own + [thing for pair in pairs for thing in asks[pair]]
        leads[name] = [scene for pair in pairs for scene in choices[pair][5][1:]]
    live = {}
    for name in scenes:
        things = [thing for scene in _come_to(leads, name) for thing in reads[scene]]
        live[name] = tuple(sorted(set(things)))
    return live


def _asked_by_choice(pair, choice, digits):
    """What a CHOICE asks for: its label, its TEST, its DEEDS, and whether it was made, if it is once."""
    _, label, test, once, deeds, _ = choice
    marks = marks_of("BITS", label) + marks_of("TEST", test) + marks_of("DEEDS", deeds)
    return _asked_by(marks, digits) + ([("made", *pair)] if once else [])


def _asked_by(marks, digits):
    """What the parts of such marks ask for, each as often."""
    things = []
    for k, (_, head, _) in enumerate(marks):
        if head == ("of",):
            things.append(("num", marks[k + 1][2]))
        elif head == ("seen",):
            things.append(("seen", marks[k + 1][2]))
        elif head == ("draw",) and digits:
            things.append(("digit",))
        elif head is not None and "".join(head) in FIGURE_WORDS:
            things.append(("figures",))
    return things


def _come_to(leads, name):
    """A SCENE and all that its CHOICES lead to, theirs too, and so on."""
    come_to = [name]
    left = [name]
    while left:
        last = left.pop()
        for scene in leads[last]:
            if scene not in come_to:
                come_to.append(scene)
                left.append(scene)
    return come_to
