"""LEAD PAPERS: whether, and where to, a ROW is LED OVER."""

from forktales.leadsteps import led_over
from forktales.tales import StoryTale


def lead_paper(one, other, row, *, table=((), ())):
    """("led", stands), or ("barred", stands, why) of a ROW that is not LED OVER."""
    _, stands, why = led_over(StoryTale(other), row, table)
    return ("led", stands) if why is None else ("barred", stands, why)
