"""LEAD PAPERS: whether, and where to, a ROW is LED OVER."""

from forktales.grounds import ground_of
from forktales.leadsteps import led_over


def lead_paper(one, other, row, *, table=((), ())):
    """("led", stands), or ("barred", stands, why) of a ROW that is not LED OVER."""
    _, stands, why = led_over(ground_of(other), row, table)
    return ("led", stands) if why is None else ("barred", stands, why)
