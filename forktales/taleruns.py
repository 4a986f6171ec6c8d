"""What is shown and offered, and what rows of choices run through, by a Tale."""

from forktales.errors import NoRow
from forktales.facts import Facts
from forktales.meanings import lines_by
from forktales.outcomes import outcome, steps_from


def lines_shown_at(tale, stand, reader):
    """The LINES that a reader, or None, is SHOWN at a STAND."""
    return lines_by(Facts(tale, stand), tale.pieces(stand[0]), reader)


def offers_at(tale, stand, lifted):
    """The OFFERS at a STAND: triples (scene, choice, lines)."""
    facts = Facts(tale, stand)
    choices = [choice for choice, _ in steps_from(tale, stand, lifted)]
    return tuple([(*choice, lines_by(facts, tale.choice_of(choice)[1], None)) for choice in choices])


def stands_run(tale, row, begin, lifted):
    """The STANDS on the way of a row of choices, from a STAND, or of None from the FIRST one."""
    stands = [tale.first() if begin is None else begin]
    for k, choice in enumerate(row):
        bar, after = outcome(tale, stands[-1], choice, lifted)
        if bar is not None:
            raise NoRow(k, bar)
        stands.append(after)
    return tuple(stands)
