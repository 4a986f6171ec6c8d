"""A STORY's parts, found by names."""

from forktales.lookups import scenes_by_name
from forktales.memory import first_stand
from forktales.weaving import choices_in


class Tale:
    """What is looked up of any STORY, whatever it is told by."""

    def __init__(self, numbers, places, doors, figures, digits):
        self.bounds = {name: (low, high) for name, low, high, _ in numbers}
        self.places = places
        self.doors = doors
        self.figures = [name for name, _ in figures]
        self.digits = digits


class StoryTale(Tale):
    """A STORY's parts, each looked for when it is first asked for: most questions ask for few."""

    def __init__(self, story):
        numbers, places, doors, figures, digits, _, _ = story
        Tale.__init__(self, numbers, places, doors, figures, digits)
        self.story = story
        self.scenes = scenes_by_name(story)
        self.there_by_scene = {}
        self.first_known = None

    def first(self):
        """The FIRST STAND."""
        if self.first_known is None:
            self.first_known = first_stand(self.story)
        return self.first_known

    def has_scene(self, name):
        """Whether there is a SCENE of this NAME."""
        return name in self.scenes

    def ending(self, name):
        """The ending of a SCENE, or None."""
        return self.scenes[name][4]

    def pieces(self, name):
        """The PIECES of a SCENE."""
        return self.scenes[name][1]

    def there(self, name):
        """The CHOICES AT a SCENE, pairs."""
        if name not in self.there_by_scene:
            self.there_by_scene[name] = choices_in(self.scenes, name)
        return self.there_by_scene[name]

    def choice_of(self, pair):
        """The CHOICE of a pair (scene, choice), None where there is none."""
        scene, name = pair
        if scene in self.scenes:
            for choice in self.scenes[scene][2]:
                if choice[0] == name:
                    return choice
        return None

    def is_once(self, pair):
        """Whether a pair is that of a CHOICE that is once."""
        choice = self.choice_of(pair)
        return choice is not None and choice[3]

    def choices(self):
        """The pairs of all CHOICES, SCENE by SCENE."""
        return [(name, choice[0]) for name in self.scenes for choice in self.scenes[name][2]]
