"""Parts of stories as flat rows, and back.

A flat row has two things for each mark of a part, as `trees` has them: its word and its rest. Word
None: rest is a leaf. Word "": a part that begins with no word, of as many parts as rest
tells. Any other word: a part that begins with it, and has as many parts behind it.
"""

from forktales.trees import built, marks_of


def flat_row(sort, part):
    """The flat row of a part that is of this sort, a list."""
    row = []
    for _, head, rest in marks_of(sort, part):
        row.append(None if head is None else "".join(head))
        row.append(rest)
    return row


def part_of_row(row):
    """The part that a flat row is of."""
    marks = [(None, _head_of(word), rest) for word, rest in zip(row[::2], row[1::2])]
    return built(marks)[0]


def _head_of(word):
    if word is None:
        return None
    return (word,) if word else ()
