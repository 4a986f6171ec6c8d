"""What bars a choice at a STAND, or else to which STAND it leads."""

from forktales.bounds import DEEP, SEEN
from forktales.deeds import do_deed
from forktales.errors import NoChoice
from forktales.facts import Facts
from forktales.meanings import is_met_by


def outcome(tale, stand, choice, lifted):
    """What bars a choice, None where it is OFFERED; and the STAND to which it leads then, else None."""
    if tale.ending(stand[0]) is not None:
        return ("ended", None)
    if choice not in tale.there(stand[0]):
        return ("there", None)
    _, _, test, once, deeds, leads = tale.choice_of(choice)
    if once and choice in stand[5]:
        return ("once", None)
    facts = Facts(tale, stand)
    if choice not in lifted and not is_met_by(facts, test):
        return ("test", None)
    for j, deed in enumerate(deeds):
        if not do_deed(tale, facts, deed):
            return (("deed", j), None)
    if not _lead(leads, facts):
        return ("stack", None)
    if once:
        facts.made = tuple(sorted([*facts.made, choice]))
    if facts.scene in facts.seen:
        facts.seen[facts.scene] = min(SEEN, facts.seen[facts.scene] + 1)
    return (None, facts.as_stand())


def made_at(tale, stand, choice, lifted):
    """The STAND to which a choice leads; refused where it is BARRED."""
    bar, after = outcome(tale, stand, choice, lifted)
    if bar is not None:
        raise NoChoice(choice, bar)
    return after


def steps_from(tale, stand, lifted):
    """Each choice that is OFFERED, in order, and the STAND to which it leads: a list of pairs."""
    outcomes = [(choice, outcome(tale, stand, choice, lifted)) for choice in tale.there(stand[0])]
    return [(choice, after) for choice, (bar, after) in outcomes if bar is None]


def _lead(leads, facts):
    """Go where a NEXT leads, if the STACK lets it; told is whether."""
    word, *names = leads
    if word == "back":
        if not facts.stack:
            return False
        facts.scene = facts.stack[-1]
        facts.stack = facts.stack[:-1]
        return True
    if word == "into":
        if len(facts.stack) >= DEEP:
            return False
        facts.stack = (*facts.stack, names[1])
    facts.scene = names[0]
    return True
