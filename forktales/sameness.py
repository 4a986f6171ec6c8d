"""Whether any two things are the same, kind by kind."""


def are_same(one, other):
    """Whether two things are the same: True is no 1, a list is no tuple."""
    left = [(one, other)]
    while left:
        this, that = left.pop()
        if isinstance(this, bool) != isinstance(that, bool) or isinstance(this, list) != isinstance(that, list):
            return False
        if isinstance(this, (list, tuple)) and isinstance(that, (list, tuple)):
            if len(this) != len(that):
                return False
            left.extend(list(zip(this, that)))
        elif this != that:
            return False
    return True
