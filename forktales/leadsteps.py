"""Rows of choices LED OVER, as far as they go."""

from forktales.outcomes import outcome
from forktales.tables import choice_call


def led_over(tale, row, table):
    """The calls and the STANDS up to the first choice that is not LED OVER, and why; None where all are."""
    calls = []
    stands = [tale.first()]
    for choice in row:
        call = choice_call(table, choice)
        bar, after = ("table", None) if call is None else outcome(tale, stands[-1], call, ())
        if bar is not None:
            return (tuple(calls), tuple(stands), bar)
        calls.append(call)
        stands.append(after)
    return (tuple(calls), tuple(stands), None)
