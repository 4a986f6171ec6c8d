"""Words of a line read one by one, each by a function of its own."""

from forktales.errors import NoText


def values_read(line, words, at, reads):
    """What the words of a line from place at on write, a list, as many as there are reads.

    Each of reads tells what a word writes, None where it cannot stand.
    """
    values = []
    for read in reads:
        place = at + len(values)
        value = read(words[place]) if place < len(words) else None
        if value is None:
            raise NoText(line, place)
        values.append(value)
    if len(words) > at + len(values):
        raise NoText(line, at + len(values))
    return values
