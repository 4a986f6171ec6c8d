"""What is shown, offered, made and run by ROWS MADE ONCE alone."""

from forktales.outcomes import made_at
from forktales.rowtales import RowTale
from forktales.taleruns import lines_shown_at, offers_at, stands_run


def rows_shown(rows, stand, *, reader=None):
    """The LINES that a reader, or None, is SHOWN at a STAND."""
    return lines_shown_at(RowTale(rows), stand, reader)


def rows_offers(rows, stand, *, lifted=()):
    """The OFFERS at a STAND: triples (scene, choice, lines)."""
    return offers_at(RowTale(rows), stand, lifted)


def rows_made(rows, stand, choice, *, lifted=()):
    """The STAND to which a choice leads; refused where it is BARRED."""
    return made_at(RowTale(rows), stand, choice, lifted)


def rows_run(rows, row, *, begin=None, lifted=()):
    """The STANDS on the way of a row of choices; refused at the first that is BARRED."""
    return stands_run(RowTale(rows), row, begin, lifted)
