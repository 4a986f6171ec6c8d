"""A house of readers once more, straight from the document, for tests to compare with: deeds done one by one from its log."""

import collections

from forktales.errors import NoStory
from forktales.wholeness import lets_whole
from tests import slowpairs, slowtale


class Refused(Exception):
    """("NoReader", name) and the like."""


class SlowHouse:
    def __init__(self, story, readers, way):
        self.story, self.way, self.row, self.makers = story, way, [], []
        self.stands, self.readers, self.votes, self.sights = [slowtale.first(story)], list(readers), {}, {}
        self.turn = readers[0] if way == "turns" and readers else None
        for reader in readers:
            self.sights[reader] = [self.shown_to(reader)]

    def shown_to(self, reader):
        return ("shown", slowtale.shown(self.story, self.stands[-1], reader), slowtale.offers(self.story, self.stands[-1]))

    def all_see(self, row):
        for reader in self.readers:
            self.sights[reader] += [row, self.shown_to(reader)]

    def behind(self, reader):
        """Who is next to a reader."""
        return (self.readers + self.readers)[self.readers.index(reader) + 1]

    def made(self, choice):
        word, thing = slowtale.make(self.story, self.stands[-1], choice)
        if word == "barred":
            raise Refused("NoChoice", choice, thing)
        return thing

    def make(self, choice, maker):
        self.stands.append(self.made(choice))
        self.row.append(choice)
        self.makers.append(maker)
        self.votes = {}
        self.all_see(("made", choice))
        return self.stands[-1]

    def count(self):
        if self.way != "votes" or not self.readers or set(self.votes) != set(self.readers):
            return None
        many = collections.Counter(self.votes.values())
        choices = [offer[:2] for offer in slowtale.offers(self.story, self.stands[-1])]
        return self.make(next(choice for choice in choices if many[choice] == max(many.values())), None)

    def known(self, reader, is_known=True):
        if (reader in self.readers) is not is_known:
            raise Refused("NoReader", reader)

    def come(self, reader):
        self.known(reader, False)
        self.readers.append(reader)
        self.sights[reader] = [self.shown_to(reader)]
        if self.way == "turns" and len(self.readers) == 1:
            self.turn = reader

    def go(self, reader):
        self.known(reader)
        if self.turn == reader:
            self.turn = self.behind(reader) if len(self.readers) > 1 else None
        self.readers.remove(reader)
        self.votes = {name: choice for name, choice in self.votes.items() if name != reader}
        del self.sights[reader]
        return self.count()

    def pick(self, reader, choice):
        self.known(reader)
        if self.way == "votes":
            raise Refused("NoChoice", choice, "votes")
        if self.way == "turns" and reader != self.turn:
            raise Refused("NoChoice", choice, "turn")
        told = self.make(choice, reader)
        self.turn = self.behind(reader) if self.way == "turns" else None
        return told

    def vote(self, reader, choice):
        self.known(reader)
        if self.way != "votes":
            raise Refused("NoChoice", choice, self.way)
        self.made(choice)
        self.votes[reader] = choice
        return self.count()

    def edit(self, story, table):
        try:
            lets_whole(story)
        except NoStory as wrong:
            raise Refused("NoStory", wrong.word, wrong.at) from None
        calls, stands, why = slowpairs.led(story, self.row, table)
        if why is not None:
            raise Refused("NoRow", len(calls), why)
        self.story, self.row, self.stands, self.votes = story, calls, stands, {}
        self.all_see(("edit",))

    def back(self, times):
        if times < 1 or times > len(self.row):
            raise Refused("NoStep", times)
        at = len(self.row) - times
        gone, maker = tuple(self.row[at:]), self.makers[at]
        del self.row[at:], self.makers[at:], self.stands[at + 1:]
        self.votes = {}
        if self.way == "turns" and maker in self.readers:
            self.turn = maker
        self.all_see(("back", times))
        return gone


def told_of(log):
    """All that a house with this log tells; or what the first deed that is refused is refused by."""
    _, story, readers, way = log[0]
    house = SlowHouse(story, readers, way)
    for word, *things in log[1:]:
        getattr(house, word)(*things)
    return all_told(house)


def all_told(house):
    return {
        "story": house.story, "row": tuple(house.row), "stand": house.stands[-1], "readers": tuple(house.readers), "way": house.way, "turn": house.turn,
        "votes": tuple(sorted(house.votes.items())), "makers": tuple(house.makers), "offers": slowtale.offers(house.story, house.stands[-1]),
        "sights": {reader: tuple(sight) for reader, sight in house.sights.items()}, "len": len(house.row),
        "text": " ".join([house.stands[-1][0], str(len(house.row)), ",".join(house.readers) or "-"]),
    }


def deed_told(house, row):
    """("told", what a deed tells) or ("refused", the name of the refusal, its fields)."""
    word, *things = row
    try:
        return ("told", getattr(house, word)(*things))
    except Refused as refused:
        return ("refused", *refused.args)
