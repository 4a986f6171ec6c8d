"""What is shown and offered, and what rows of choices run through, by a Ground."""

from forktales.errors import NoRow
from forktales.facts import Facts
from forktales.folding import folded
from forktales.outcomes import outcome, steps_from


def lines_shown_at(ground, stand, reader):
    """The LINES that a reader, or None, is SHOWN at a STAND."""
    return _lines_of(ground, stand, ground.pieces[stand[0]], reader)


def offers_at(ground, stand, lifted):
    """The OFFERS at a STAND: triples (scene, choice, lines)."""
    choices = [choice for choice, _ in steps_from(ground, stand, lifted)]
    return tuple([(*choice, _lines_of(ground, stand, ground.labels[choice], None)) for choice in choices])


def stands_run(ground, row, begin, lifted):
    """The STANDS on the way of a row of choices, from a STAND, or of None from the FIRST one."""
    stands = [ground.first if begin is None else begin]
    for k, choice in enumerate(row):
        bar, after = outcome(ground, stands[-1], choice, lifted)
        if bar is not None:
            raise NoRow(k, bar)
        stands.append(after)
    return tuple(stands)


def _lines_of(ground, stand, marks, reader):
    """The LINES to which the PIECES of such marks come."""
    text = "".join(folded(marks, Facts(ground.bounds, ground.figures, stand, reader)))
    # a glue takes away the ends beside it; other ends that have no text at one side part no LINES
    glued = "".join([part.strip("\n") for part in text.split("\t")])
    lines = [line.strip(" ") for line in glued.split("\n")]
    return tuple([line for line in lines if line])
