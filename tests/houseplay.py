"""Rows of deeds for made houses, the same for the same seed each time; some are refused."""

from tests.storymaker import CHOICES, READERS, SCENES, Maker

NAMES = (*READERS, "zoe")
WAYS = ("turns", "votes", "any")


class Player:
    """Tells deeds for a house as it stands then."""

    def __init__(self, seed):
        self.maker = Maker(f"house {seed}", lively=True)
        self.story = self.maker.story()
        self.readers = self.maker.some(READERS)
        self.way = self.maker.one(WAYS)

    def one(self, things):
        return self.maker.one(things)

    def choice(self, house):
        offered = [offer[:2] for offer in house.offers_now()]
        if offered and self.one((True, True, True, False)):
            return self.one(offered)
        return (self.one(SCENES), self.one(CHOICES))

    def reader(self, house):
        if house.turn_now() is not None and self.one((True, True, False)):
            return house.turn_now()
        return self.one(NAMES)

    def row(self, house):
        word = self.one(("come", "go", "pick", "pick", "pick", "vote", "vote", "edit", "back"))
        if word in ("pick", "vote"):
            if house.way_now() == "votes" and self.one((True, True, True, False)):
                word = "vote"
            return (word, self.reader(house), self.choice(house))
        if word == "edit":
            return (word, *self.edit(house))
        return (word, self.one((1, 1, 2, 3, 0, -1, 99)) if word == "back" else self.one(NAMES))

    def edit(self, house):
        one = self.maker.edited(house.story_now())
        if self.one((True, True, False)):
            return one, ((), ())
        return one[:6] + (self.one((*SCENES, "nowhere")),), self.maker.table()
