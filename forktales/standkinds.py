"""Whether any thing is a STAND by kind alone."""

from forktales.bounds import DEEP
from forktales.scenekinds import is_tuple_of, is_word_pair
from forktales.talekinds import is_number, is_word


def is_stand(thing):
    """Whether a thing has the shape of a STAND."""
    if not isinstance(thing, tuple) or len(thing) != 7:
        return False
    scene, stack, numbers, wheres, seen, made, digit = thing
    return (
        is_word(scene)
        and is_tuple_of(stack, is_word)
        and len(stack) <= DEEP
        and is_tuple_of(numbers, is_number)
        and is_tuple_of(wheres, _is_where)
        and is_tuple_of(seen, _is_count)
        and is_tuple_of(made, is_word_pair)
        and is_number(digit)
    )


def _is_where(thing):
    return is_word_pair(thing) and thing[0] in ("at", "with")


def _is_count(thing):
    return isinstance(thing, tuple) and len(thing) == 2 and is_word(thing[0]) and is_number(thing[1])
