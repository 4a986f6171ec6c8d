"""What the tests have in common: calls by place and by name, things compared kind by kind, things bent."""

import copy
import inspect

from forktales.errors import NoPaper, NoText


def same(one, other):
    """Whether two things are the same, kind by kind: True is no 1, a list no tuple."""
    left = [(one, other)]
    while left:
        one, other = left.pop()
        if type(one) is not type(other):
            return False
        if isinstance(one, dict):
            one, other = list(one.items()), list(other.items())
        if isinstance(one, (list, tuple)):
            if len(one) != len(other):
                return False
            left.extend(zip(one, other))
        elif one != other:
            return False
    return True


def by_place(function, named):
    """What a function tells where all that can be is handed in by its place."""
    parameters = inspect.signature(function).parameters
    alone = {name: named[name] for name in named if parameters[name].kind is inspect.Parameter.KEYWORD_ONLY}
    return function(*[named[name] for name in named if name not in alone], **alone)


def told(function, **named):
    """What a function tells, by names and by places alike; what is handed in stays as it is."""
    before = copy.deepcopy(named)
    first = function(**named)
    second = by_place(function, named)
    if not same(first, second):
        raise AssertionError(f"{function.__name__} by name {first!r}, by place {second!r}")
    if not same(named, before):
        raise AssertionError(f"{function.__name__} has changed {before!r} to {named!r}")
    return first


def refusal(function, error, *fields, **named):
    """The fields of the refusal that a call ends in, each call in the same, nothing changed."""
    before = copy.deepcopy(named)
    found = []
    for call in (lambda: function(**named), lambda: by_place(function, named)):
        try:
            answer = call()
        except error as refused:
            if type(refused) is not error:
                raise AssertionError(f"{type(refused)} is not {error}") from refused
            found.append(tuple(getattr(refused, field) for field in fields))
        else:
            raise AssertionError(f"{function.__name__} told {answer!r}")
    if not same(found[0], found[1]) or not same(named, before):
        raise AssertionError(f"{function.__name__}: {found!r}, {named!r}")
    return found[0]


def paper_fault(function, **named):
    """The word and the place of the NoPaper that a checker ends in."""
    return refusal(function, NoPaper, "word", "at", **named)


def verdict(checker, **named):
    """("let", told) or ("refused", word, at) of a checker, by names and by places alike."""
    try:
        return ("let", told(checker, **named))
    except NoPaper:
        return ("refused", *paper_fault(checker, **named))


def found(read, text):
    """What a reading function tells of a text, as slowreading tells it."""
    try:
        return ("read", read(text))
    except NoText as refused:
        return ("refused", refused.line, refused.word)


STRANGE = (None, True, False, 0, 1, -1, 10 ** 59, "", "a", "A", "a b", "num", "all", (), [], ("a",), ["a"])
WRONG_WORDS = ("", "abcdefghi", "Hall", "h all", "hall ", "h1", "h-", "hall\n", "percent%", "h_l", "\u00e4", "\u0430")


def bent(thing):
    """The thing with one thing in it bent, at each place in turn."""
    yield None
    if isinstance(thing, bool):
        yield from (not thing, int(thing), None)
    elif isinstance(thing, int):
        yield from (thing + 1, -thing - 1, bool(thing), str(thing), 10 ** 60 - 1, 10, 9, 0)
    elif isinstance(thing, str):
        yield from WRONG_WORDS
        yield from (thing + "a", 0, False, (thing,), "a", "zzzzzzzz")
    elif isinstance(thing, tuple):
        yield from _bent_tuple(thing)


def _bent_tuple(thing):
    yield list(thing)
    yield from ("", 0, True)
    yield thing + (None,)
    yield thing + ((),)
    for k in range(len(thing)):
        yield thing[:k] + thing[k + 1:]
        yield thing[:k] + thing[k:k + 1] + thing[k:]
        yield thing[:k] + thing[k + 1:k + 2] + thing[k:k + 1] + thing[k + 2:]
        for other in bent(thing[k]):
            yield thing[:k] + (other,) + thing[k + 1:]


def deep(thing, times):
    """A thing within tuples, one in another."""
    for _ in range(times):
        thing = (thing,)
    return thing
