"""Parts of stories as rows of marks, and back.

The marks of a part stand in the order in which it is written: its own, then those of
what stands in it. A mark is (sort, head, rest): of a leaf head is None and rest the
leaf itself; else the part is head and as many parts behind it as rest tells. Rows are
gone through without calls within calls, so parts may stand in one another however deep.
"""

from forktales.shapes import LISTS, ROWS, SHAPES, WORDED


def marks_of(sort, part):
    """The marks of a part that is of this sort."""
    marks = []
    left = [(sort, part)]
    while left:
        inner_sort, inner = left.pop()
        head, slots = _opened(inner_sort, inner)
        if head is None:
            marks.append((inner_sort, None, inner))
        else:
            marks.append((inner_sort, head, len(slots)))
            left.extend(slots[::-1])
    return marks


def built(marks):
    """The list of parts that such marks are of."""
    parts = []
    for _, head, rest in marks[::-1]:
        if head is None:
            parts.append(rest)
        else:
            whole = list(head)
            for _ in range(rest):
                whole.append(parts.pop())
            parts.append(tuple(whole))
    return parts[::-1]


def _opened(sort, part):
    """The head of a part, and the list of its slots, pairs (sort, what is there)."""
    if sort in LISTS:
        return (), [(LISTS[sort], inner) for inner in part]
    if sort in ROWS:
        return (), list(zip(ROWS[sort], part))
    if sort in WORDED:
        return part[:1], list(zip(SHAPES[sort, part[0]], part[1:]))
    return None, []
