"""Whole stories, stands, tables and logs made by a row of numbers, the same for the same seed each time."""

import random

from forktales.barring import made
from forktales.memory import first_stand
from forktales.offering import offers
from forktales.weaving import asked_scenes

SCENES = ("attic", "cellar", "hall", "loft", "yard")
CHOICES = ("call", "drop", "open", "take", "wait")
NUMBERS = ("coin", "debt")
FIGURES = ("ann", "bob", "cat")
PLACES = ("inn", "lake", "road")
READERS = ("ann", "pia", "tom")


class Maker:
    def __init__(self, seed, *, lively=False):
        """In lively stories fewer scenes end, and more choices are offered."""
        self.chance = random.Random(seed)
        self.lively = lively

    def some(self, things, most=3):
        """Unlike ones of some things, rising."""
        return tuple(sorted(self.chance.sample(things, self.chance.randint(0, min(most, len(things))))))

    def one(self, things):
        return self.chance.choice(things)

    def number(self):
        return self.one((0, 1, 3, 9, -1, -12, 10 ** 60 - 1))

    def amount(self, deep=2):
        word = self.one(("num", "of", "seen", "plus", "minus"))
        if word in ("plus", "minus") and deep:
            return (word, self.amount(deep - 1), self.amount(deep - 1))
        if word == "of":
            return (word, self.one(NUMBERS))
        return ("seen", self.one(SCENES)) if word == "seen" else ("num", self.number())

    def test(self, deep=2):
        word = self.one(("is", "at", "with", "not", "all", "any"))
        if word == "is":
            return (word, self.amount(), self.one("<=>"), self.amount())
        if word == "not" and deep:
            return (word, self.test(deep - 1))
        if word in ("all", "any"):
            return (word, tuple(self.test(deep - 1) for _ in range(self.one((0, 1, 2)) if deep else 0)))
        return ("at", self.one(FIGURES), self.one(PLACES)) if word == "at" else ("with", self.one(FIGURES), self.one(FIGURES))

    def pieces(self, *, only, deep=2):
        return tuple(self.piece(only, deep) for _ in range(self.one((0, 1, 1, 2, 3))))

    def piece(self, only, deep):
        word = self.one(("text", "worth", "place", "end", "glue", "if", "only"))
        if word == "if" and deep:
            return (word, self.test(), self.pieces(only=only, deep=deep - 1), self.pieces(only=only, deep=deep - 1))
        if word == "only" and deep and only:
            return (word, self.one(READERS), self.pieces(only=only, deep=deep - 1))
        if word == "worth":
            return (word, self.amount())
        if word == "place":
            return (word, self.one(FIGURES))
        return (word,) if word in ("end", "glue") else ("text", self.one(("", " ", "a b", "  done ", "text", "Oh!")))

    def deed(self):
        word = self.one(("set", "draw", "go", "put", "join", "leave"))
        if word == "set":
            return (word, self.one(NUMBERS), self.amount())
        if word == "draw":
            return (word, self.one(NUMBERS))
        if word == "leave":
            return (word, self.one(FIGURES))
        return (word, self.one(FIGURES), self.one(FIGURES if word == "join" else PLACES))

    def leads(self):
        word = self.one(("to", "into", "back") + ("to",) * 4 * self.lively)
        return (word,) + tuple(self.one(SCENES) for _ in range(("back", "to", "into").index(word)))

    def choice(self, name):
        deeds = tuple(self.deed() for _ in range(self.one((0, 0, 0, 1, 2) if self.lively else (0, 1, 2))))
        test = ("all", ()) if self.lively and self.one((True, True, False)) else self.test()
        return (name, self.pieces(only=False), test, self.one((True, False)), deeds, self.leads())

    def scene(self, name):
        names = self.chance.sample(CHOICES, self.one((1, 2, 3) if self.lively else (0, 1, 2, 3)))
        woven = tuple(self.chance.sample(SCENES, self.one((0, 0, 1, 2, 3))))
        ending = self.one((None, None, "good", "bad") + (None,) * 8 * self.lively)
        return (name, self.pieces(only=True), tuple(self.choice(other) for other in names), woven, ending)

    def story(self):
        numbers = tuple((name, low, low + more, low + self.chance.randint(0, more))
                        for name, low, more in ((name, self.one((-9, 0, 2)), self.one((0, 3, 9))) for name in NUMBERS))
        doors = self.some([(one, other) for one in PLACES for other in PLACES if one < other])
        figures = tuple((name, self.one(PLACES)) for name in FIGURES)
        digits = tuple(self.chance.randint(0, 9) for _ in range(self.one((0, 1, 3))))
        return (numbers, PLACES, doors, figures, digits, tuple(self.scene(name) for name in SCENES), self.one(SCENES))

    def stand(self):
        """A STAND by kind."""
        wheres = tuple(self.one((("at", self.one(PLACES)), ("with", self.one(FIGURES)))) for _ in range(self.one((0, 1, 3))))
        return (
            self.one(SCENES), tuple(self.one(SCENES) for _ in range(self.one((0, 1, 2, 3)))),
            tuple(self.number() for _ in range(self.one((0, 1, 2)))), wheres,
            tuple((self.one(SCENES), self.number()) for _ in range(self.one((0, 1, 3)))),
            tuple((self.one(SCENES), self.one(CHOICES)) for _ in range(self.one((0, 1, 3)))), self.number(),
        )

    def right_stand(self, story):
        """A RIGHT STAND of a story, any."""
        names = [scene[0] for scene in story[5]]
        figures = [row[0] for row in story[3]]
        wheres = []
        for k in range(len(figures)):
            # with one ahead alone, so no ring comes about
            other = self.one(figures[:k]) if k and self.one((True, False)) else None
            wheres.append(("at", self.one(story[1])) if other is None else ("with", other))
        onces = sorted((scene[0], choice[0]) for scene in story[5] for choice in scene[2] if choice[3])
        return (
            self.one(names), tuple(self.one(names) for _ in range(self.one((0, 1, 2, 3)))),
            tuple(self.chance.randint(low, high) for _, low, high, _ in story[0]), tuple(wheres),
            tuple((name, self.one((0, 1, 8, 9))) for name in asked_scenes(story)), self.some(onces),
            self.chance.randrange(max(1, len(story[4]))),
        )

    def lifted(self, story):
        """Some choices, one of them of no story."""
        pairs = [(scene[0], choice[0]) for scene in story[5] for choice in scene[2]]
        return self.some([*pairs, ("nowhere", "none")], len(pairs))

    def row(self, story, many, lifted=()):
        """A row of choices of a story, offered in turn, and the stands on the way."""
        stands, row = [first_stand(story)], []
        for _ in range(many):
            choices = [offer[:2] for offer in offers(story, stands[-1], lifted=lifted)]
            if not choices:
                break
            row.append(self.one(choices))
            stands.append(made(story, stands[-1], row[-1], lifted=lifted))
        return tuple(row), tuple(stands)

    def edited(self, story):
        """A WHOLE story with one part made anew."""
        numbers, places, doors, figures, digits, scenes, begin = story
        word = self.one(("pieces", "label", "test", "once", "deeds", "leads", "drop", "woven", "ending", "digits", "doors", "none"))
        if word == "digits":
            return (numbers, places, doors, figures, digits + (self.chance.randint(0, 9),), scenes, begin)
        if word == "doors":
            return (numbers, places, doors[1:], figures, digits, scenes, begin)
        k = self.chance.randrange(len(scenes))
        return (numbers, places, doors, figures, digits, scenes[:k] + (self.edited_scene(scenes[k], word),) + scenes[k + 1:], begin)

    def edited_scene(self, scene, word):
        name, pieces, choices, woven, ending = scene
        new = self.choice(self.one(choices)[0]) if choices else None
        slot = ("", "label", "test", "once", "deeds", "leads").index(word) if word in ("label", "test", "once", "deeds", "leads") else 0
        if slot and new:
            choices = tuple(old[:slot] + new[slot:slot + 1] + old[slot + 1:] if old[0] == new[0] else old for old in choices)
        elif word == "drop":
            choices = choices[1:]
        return (
            name, self.pieces(only=True) if word == "pieces" else pieces, choices,
            woven[::-1] if word == "woven" else woven, self.one((None, "good", "bad")) if word == "ending" else ending,
        )

    def calls(self, things):
        firsts, seconds = self.some(things), list(things)
        self.chance.shuffle(seconds)
        return tuple(zip(firsts, seconds))

    def table(self):
        return (self.calls(SCENES + ("zoo", "den")), self.calls([(one, other) for one in SCENES for other in CHOICES[:2]]))

    def full_table(self, story):
        """A TABLE by which the story can be called otherwise."""
        scenes = dict(zip(SCENES, self.chance.sample([*SCENES, "den", "zoo"], len(SCENES))))
        choices = []
        for name, _, own, _, _ in story[5]:
            others = self.chance.sample([*CHOICES, "sing"], len(own))
            choices += [((name, choice[0]), (scenes[name], other)) for choice, other in zip(own, others)]
        return (tuple(sorted(scenes.items())), tuple(sorted(choices)))

    def log(self):
        rows = [("house", self.story(), self.some(READERS), self.one(("turns", "votes", "any")))]
        for _ in range(self.one((0, 1, 4, 8))):
            word = self.one(("come", "go", "pick", "vote", "edit", "back"))
            if word in ("come", "go"):
                rows.append((word, self.one(READERS)))
            elif word == "edit":
                rows.append((word, self.story(), self.table()))
            elif word == "back":
                rows.append((word, self.number()))
            else:
                rows.append((word, self.one(READERS), (self.one(SCENES), self.one(CHOICES))))
        return tuple(rows)
