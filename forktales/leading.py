"""ROWS LED OVER from one STORY to another."""

from forktales.errors import NoRow
from forktales.grounds import ground_of
from forktales.leadsteps import led_over


def row_led(one, other, row, *, table=((), ())):
    """The ROW of calls and the other's STANDS; refused at the first choice that is not LED OVER."""
    calls, stands, why = led_over(ground_of(other), row, table)
    if why is not None:
        raise NoRow(len(calls), why)
    return (calls, stands)
