"""The deeds of a HOUSE: each changes what it has, or is refused."""

from forktales.errors import NoChoice, NoReader, NoRow, NoStep
from forktales.leadsteps import led_over
from forktales.outcomes import made_at
from forktales.tales import StoryTale
from forktales.wholeness import lets_whole


def _come(state, reader):
    if reader in state.readers:
        raise NoReader(reader)
    state.readers = (*state.readers, reader)
    if state.way == "turns" and state.turn is None:
        state.turn = reader
    state.begin_sight(reader)


def _go(state, reader):
    _check_reader(state, reader)
    if state.turn == reader:
        other = state.next_to(reader)
        state.turn = None if other == reader else other
    state.readers = tuple([name for name in state.readers if name != reader])
    state.votes.pop(reader, None)
    state.sights.pop(reader)
    return _count_votes(state)


def _pick(state, reader, choice):
    _check_reader(state, reader)
    if state.way == "votes":
        raise NoChoice(choice, "votes")
    if state.way == "turns" and state.turn != reader:
        raise NoChoice(choice, "turn")
    stand = _make(state, choice, reader)
    if state.way == "turns":
        state.turn = state.next_to(reader)
    return stand


def _vote(state, reader, choice):
    _check_reader(state, reader)
    if state.way != "votes":
        raise NoChoice(choice, state.way)
    made_at(state.tale, state.stand(), choice, ())
    state.votes[reader] = choice
    return _count_votes(state)


def _edit(state, story, table):
    lets_whole(story)
    tale = StoryTale(story)
    calls, stands, why = led_over(tale, state.row, table)
    if why is not None:
        raise NoRow(len(calls), why)
    state.tale = tale
    state.row = calls
    state.stands = stands
    state.votes = {}
    state.show(("edit",))


def _back(state, times):
    if not 1 <= times <= len(state.row):
        raise NoStep(times)
    gone = state.row[-times:]
    maker = state.makers[-times]
    state.row = state.row[:-times]
    state.stands = state.stands[:-times]
    state.makers = state.makers[:-times]
    state.votes = {}
    if state.way == "turns" and maker in state.readers:
        state.turn = maker
    state.show(("back", times))
    return gone


# What each deed does, and tells.
DEEDS = {
    "come": _come,
    "go": _go,
    "pick": _pick,
    "vote": _vote,
    "edit": _edit,
    "back": _back,
}


def do_house_deed(state, row):
    """Do the deed of a row to what a HOUSE has; told is what the deed tells."""
    word, *things = row
    deed = DEEDS[word]
    return deed(state, *things)


def _check_reader(state, reader):
    if reader not in state.readers:
        raise NoReader(reader)


def _make(state, choice, maker):
    """Make a choice, if it is OFFERED; told is the STAND to which it leads."""
    stand = made_at(state.tale, state.stand(), choice, ())
    state.row = (*state.row, choice)
    state.stands = (*state.stands, stand)
    state.makers = (*state.makers, maker)
    state.votes = {}
    state.show(("made", choice))
    return stand


def _count_votes(state):
    """Make the choice of most VOTES, if each READER has one; told is the STAND then, else None."""
    if state.way != "votes" or not state.readers or len(state.votes) < len(state.readers):
        return None
    votes = list(state.votes.values())
    choices = [offer[:2] for offer in state.offers()]
    return _make(state, max(choices, key=lambda choice: votes.count(choice)), None)
