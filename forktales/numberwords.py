"""NUMBERS as words of figures."""

FIGURES = "0123456789"


def number_read(word):
    """The NUMBER that a word of at most sixty figures writes; None where it writes none."""
    figures = word[1:] if word.startswith("-") else word
    if not 1 <= len(figures) <= 60 or not _are_figures(figures):
        return None
    if figures[0] == "0" and word != "0":
        return None
    return int(word)


def count_read(word):
    """How many a word of one or two figures tells; None where it tells nothing."""
    if len(word) > 2 or word.startswith("-"):
        return None
    return number_read(word)


def digit_read(word):
    """The NUMBER from 0 to 9 that a word of one figure writes; None where it writes none."""
    return number_read(word) if len(word) == 1 else None


def _are_figures(signs):
    return all([sign in FIGURES for sign in signs])
