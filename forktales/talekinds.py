"""Whether any thing is a WORD, a SUM, a TEST, a PIECE, a DEED, a NEXT."""

from forktales.shapes import LISTS, ROWS, SHAPES, WORDED


def is_word(thing):
    """Whether a thing is a text of one to eight small letters."""
    if not isinstance(thing, str) or len(thing) > 8:
        return False
    return thing.isascii() and thing.isalpha() and thing.islower()


def is_number(thing):
    """Whether a thing is an int that is no truth."""
    return isinstance(thing, int) and not isinstance(thing, bool)


def is_truth(thing):
    """Whether a thing is True or False."""
    return isinstance(thing, bool)


def is_sign(thing):
    """Whether a thing is a sign by which two SUMS are compared."""
    return isinstance(thing, str) and thing in ("<", "=", ">")


def is_line(thing):
    """Whether a thing is a text without line ends."""
    if not isinstance(thing, str):
        return False
    # 37 is the one sign between the blank and ~ that no text has
    return all([32 <= ord(sign) <= 126 and ord(sign) != 37 for sign in thing])


def is_ending(thing):
    """Whether a thing is a WORD or None."""
    return thing is None or is_word(thing)


# Every sort of leaf, and whether a thing is one.
LEAVES = {
    "number": is_word,
    "figure": is_word,
    "place": is_word,
    "scene": is_word,
    "asked": is_word,
    "reader": is_word,
    "own": is_word,
    "count": is_number,
    "sign": is_sign,
    "line": is_line,
    "once": is_truth,
    "ending": is_ending,
}


def is_sum(thing):
    """Whether a thing is a SUM."""
    return fits("SUM", thing)


def is_test(thing):
    """Whether a thing is a TEST."""
    return fits("TEST", thing)


def is_piece(thing):
    """Whether a thing is a PIECE."""
    return fits("PIECE", thing)


def is_deed(thing):
    """Whether a thing is a DEED."""
    return fits("DEED", thing)


def is_next(thing):
    """Whether a thing is a NEXT."""
    return fits("NEXT", thing)


def fits(sort, thing):
    """Whether a thing, and all that stands in it, is of its sort."""
    left = [(sort, thing)]
    while left:
        inner_sort, inner = left.pop()
        slots = _slots(inner_sort, inner)
        if slots is None:
            return False
        left.extend(slots)
    return True


def _slots(sort, thing):
    """What has yet to be looked at, pairs (sort, thing); None where a thing is not of its sort."""
    if sort in LEAVES:
        is_one = LEAVES[sort]
        return [] if is_one(thing) else None
    if not isinstance(thing, tuple):
        return None
    if sort in LISTS:
        return [(LISTS[sort], inner) for inner in thing]
    if sort in ROWS:
        return _paired(ROWS[sort], thing)
    if sort in WORDED and thing and isinstance(thing[0], str):
        return _paired(SHAPES.get((sort, thing[0])), thing[1:])
    return None


def _paired(slots, things):
    """Pairs of a slot's sort and a thing; None where there are other slots than things."""
    if slots is None or len(slots) != len(things):
        return None
    return list(zip(slots, things))
