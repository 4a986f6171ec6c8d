"""What bars a choice at a STAND, or else to which STAND it leads."""

from forktales.bounds import DEEP, SEEN
from forktales.deeds import do_deed
from forktales.errors import NoChoice
from forktales.facts import Facts
from forktales.folding import folded


def outcome(ground, stand, choice, lifted):
    """What bars a choice, None where it is OFFERED; and the STAND to which it leads then, else None."""
    bar = _bar_ahead(ground, stand, choice)
    if bar is not None:
        return (bar, None)
    facts = Facts(ground.bounds, ground.figures, stand)
    if choice not in lifted and not folded(ground.tests[choice], facts):
        return ("test", None)
    for j, marks in enumerate(ground.deeds[choice]):
        if not do_deed(ground, facts, marks):
            return (("deed", j), None)
    if not _lead(ground.leads[choice], facts):
        return ("stack", None)
    if ground.once[choice]:
        facts.made = tuple(sorted([*facts.made, choice]))
    if facts.scene in facts.seen:
        facts.seen[facts.scene] = min(SEEN, facts.seen[facts.scene] + 1)
    return (None, facts.as_stand())


def made_at(ground, stand, choice, lifted):
    """The STAND to which a choice leads; refused where it is BARRED."""
    bar, after = outcome(ground, stand, choice, lifted)
    if bar is not None:
        raise NoChoice(choice, bar)
    return after


def steps_from(ground, stand, lifted):
    """Each choice that is OFFERED, in order, and the STAND to which it leads: a list of pairs."""
    outcomes = [(choice, outcome(ground, stand, choice, lifted)) for choice in ground.there[stand[0]]]
    return [(choice, after) for choice, (bar, after) in outcomes if bar is None]


def _bar_ahead(ground, stand, choice):
    """What bars a choice ahead of its TEST."""
    if ground.endings[stand[0]] is not None:
        return "ended"
    if choice not in ground.there[stand[0]]:
        return "there"
    return "once" if ground.once[choice] and choice in stand[5] else None


def _lead(leads, facts):
    """Go where a NEXT leads, if the STACK lets it; told is whether."""
    word, *names = leads
    if word == "back":
        if not facts.stack:
            return False
        facts.scene = facts.stack[-1]
        facts.stack = facts.stack[:-1]
        return True
    if word == "into":
        if len(facts.stack) >= DEEP:
            return False
        facts.stack = (*facts.stack, names[1])
    facts.scene = names[0]
    return True
