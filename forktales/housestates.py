"""What a HOUSE has at one time."""

from forktales.taleruns import lines_shown_at, offers_at
from forktales.tales import StoryTale


class HouseState:
    """A HOUSE's STORY, its ROW and the STANDS on the way, MAKERS, READERS, VOTES, TURN and SIGHTS."""

    def __init__(self, tale, way):
        self.tale = tale
        self.way = way
        self.row = ()
        self.stands = (tale.first(),)
        self.makers = ()
        self.readers = ()
        self.votes = {}
        self.turn = None
        self.sights = {}

    def copied(self):
        """Another one that has the same, for a deed to change."""
        other = HouseState(self.tale, self.way)
        other.row = self.row
        other.stands = self.stands
        other.makers = self.makers
        other.readers = self.readers
        other.votes = dict(self.votes)
        other.turn = self.turn
        other.sights = dict(self.sights)
        return other

    def stand(self):
        """The STAND behind the ROW."""
        return self.stands[-1]

    def offers(self):
        """The OFFERS at the STAND."""
        return offers_at(self.tale, self.stand(), ())

    def next_to(self, reader):
        """The READER NEXT to one."""
        return self.readers[(self.readers.index(reader) + 1) % len(self.readers)]

    def begin_sight(self, reader):
        """Show a READER the STAND, as the first that it sees."""
        self.sights[reader] = (self._shown_to(reader, self.offers()),)

    def show(self, row):
        """Show each READER what was done, and the STAND then."""
        offers = self.offers() if self.readers else ()
        for reader in self.readers:
            self.sights[reader] = (*self.sights[reader], row, self._shown_to(reader, offers))

    def _shown_to(self, reader, offers):
        return ("shown", lines_shown_at(self.tale, self.stand(), reader), offers)


def first_state(story, readers, way):
    """What a HOUSE made of a WHOLE STORY has at first."""
    state = HouseState(StoryTale(story), way)
    state.readers = readers
    if way == "turns" and readers:
        state.turn = readers[0]
    for reader in readers:
        state.begin_sight(reader)
    return state
