"""Whether any two things are the same, kind by kind."""


def are_same(one, other):
    """Whether two things are the same: True is no 1, a list is no tuple."""
    left = [(one, other)]
    while left:
        this, that = left.pop()
        if _kind(this) != _kind(that):
            return False
        if isinstance(this, (list, tuple)):
            if len(this) != len(that):
                return False
            left.extend(list(zip(this, that)))
        elif this != that:
            return False
    return True


def _kind(thing):
    if isinstance(thing, bool):
        return "truth"
    if isinstance(thing, int):
        return "number"
    if isinstance(thing, str):
        return "text"
    if isinstance(thing, tuple):
        return "tuple"
    return "list" if isinstance(thing, list) else "none"
