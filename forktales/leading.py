"""ROWS LED OVER from one STORY to another."""

from forktales.errors import NoRow
from forktales.leadsteps import led_over
from forktales.tales import StoryTale


def row_led(one, other, row, *, table=((), ())):
    """The ROW of calls and the other's STANDS; refused at the first choice that is not LED OVER."""
    calls, stands, why = led_over(StoryTale(other), row, table)
    if why is not None:
        raise NoRow(len(calls), why)
    return (calls, stands)
