"""A HOUSE: one STORY before several readers."""

from forktales.commas import listed
from forktales.errors import LackError, NoReader, NoStep, TaleError
from forktales.housedeeds import do_house_deed
from forktales.housestates import first_state
from forktales.sameness import are_same
from forktales.wholeness import lets_whole


class House:
    """One STORY before several readers; a deed that is refused changes nothing."""

    def __init__(self, story, *, readers=(), way="turns"):
        lets_whole(story)
        self.rows = [("house", story, readers, way)]
        # behind each row what the house has then, so that a deed may be taken back
        self.states = [first_state(story, readers, way)]
        self.goings = 0

    def come(self, reader):
        """A reader comes."""
        self._done(("come", reader))

    def go(self, reader):
        """A READER goes; told is the STAND to which what the VOTES of others made led, or None."""
        return self._done(("go", reader))

    def pick(self, reader, choice):
        """A READER makes a choice; told is the STAND to which it led."""
        return self._done(("pick", reader, choice))

    def vote(self, reader, choice):
        """A READER votes for a choice; told is the STAND to which what the VOTES made led, or None."""
        return self._done(("vote", reader, choice))

    def edit(self, story, table=((), ())):
        """Another STORY in the one's stead, to which the ROW is LED OVER."""
        self._done(("edit", story, table))

    def back(self, times):
        """The last so many choices go; told are these."""
        return self._done(("back", times))

    def story_now(self):
        """Its STORY."""
        return self._now().tale.story

    def row_now(self):
        """Its ROW."""
        return self._now().row

    def stand_now(self):
        """The STAND behind its ROW."""
        return self._now().stand()

    def readers_now(self):
        """Its READERS, in order."""
        return self._now().readers

    def way_now(self):
        """Its way."""
        return self._now().way

    def turn_now(self):
        """The READER that has the TURN, or None."""
        return self._now().turn

    def votes_now(self):
        """Its VOTES, rising."""
        return tuple(sorted(list(self._now().votes.items())))

    def makers_now(self):
        """Of each choice of the ROW its MAKER."""
        return self._now().makers

    def offers_now(self):
        """The OFFERS at the STAND."""
        return self._now().offers()

    def sight_of(self, reader):
        """The SIGHT of a READER."""
        sights = self._now().sights
        if reader not in sights:
            raise NoReader(reader)
        return sights[reader]

    def has(self, thing):
        """Whether any thing is a READER."""
        return isinstance(thing, str) and thing in self._now().readers

    def log(self):
        """Its LOG."""
        return tuple(self.rows)

    def undo(self):
        """The last deed is as if it had never been; told is its row."""
        if len(self.rows) == 1:
            raise NoStep(0)
        self.states.pop()
        return self.rows.pop()

    def do_all(self, deeds, *, keep=False):
        """Do deeds by their rows, all of them; where one is refused none, or if keep is True those ahead of it."""
        begin = len(self.rows)
        self.goings += 1
        try:
            for row in deeds:
                self._done(tuple(row))
        except (TaleError, LackError):
            if not keep:
                self.rows = self.rows[:begin]
                self.states = self.states[:begin]
            raise
        finally:
            self.goings -= 1
        return len(deeds)

    def walks(self):
        """How many such goings are being done."""
        return self.goings

    def __len__(self):
        return len(self.row_now())

    def __str__(self):
        return f"{self.stand_now()[0]} {len(self.row_now())} {listed(self.readers_now())}"

    def __eq__(self, other):
        return isinstance(other, House) and are_same(self.log(), other.log())

    def __ne__(self, other):
        return not self == other

    def _now(self):
        """What it has now."""
        return self.states[-1]

    def _done(self, row):
        """Do the deed of a row, and note it; told is what the deed tells."""
        state = self._now().copied()
        told = do_house_deed(state, row)
        self.rows.append(row)
        self.states.append(state)
        return told
