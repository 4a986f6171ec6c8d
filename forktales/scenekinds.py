"""Whether any thing is a CHOICE, a SCENE, a STORY."""

from forktales.orders import rises, unlike
from forktales.talekinds import fits, is_number, is_word


def is_choice(thing):
    """Whether a thing is a CHOICE."""
    return fits("CHOICE", thing)


def is_scene(thing):
    """Whether a thing is a SCENE."""
    if not fits("SCENE", thing):
        return False
    _, _, choices, woven, _ = thing
    return unlike([choice[0] for choice in choices]) and unlike(woven)


def is_story(thing):
    """Whether a thing is a STORY; whether what it names is there is not asked."""
    if not isinstance(thing, tuple) or len(thing) != 7:
        return False
    numbers, places, doors, figures, digits, scenes, begin = thing
    return (
        _are_named(numbers, _is_number_row)
        and is_tuple_of(places, is_word)
        and rises(places)
        and is_tuple_of(doors, _is_door)
        and rises(doors)
        and _are_named(figures, is_word_pair)
        and is_tuple_of(digits, _is_digit)
        and _are_named(scenes, is_scene)
        and is_word(begin)
    )


def is_word_pair(thing):
    """Whether a thing is a pair of WORDS."""
    return isinstance(thing, tuple) and len(thing) == 2 and is_word(thing[0]) and is_word(thing[1])


def is_word_row(thing):
    """Whether a thing is a rising tuple of WORDS."""
    return is_tuple_of(thing, is_word) and rises(thing)


def is_tuple_of(thing, is_one):
    """Whether a thing is a tuple of things that are all as told."""
    return isinstance(thing, tuple) and all([is_one(part) for part in thing])


def _are_named(thing, is_one):
    """Whether a thing is a tuple of such things that rises by their names, the first in each."""
    return is_tuple_of(thing, is_one) and rises([part[0] for part in thing])


def _is_number_row(thing):
    """Whether a thing is a number's name, what it is at least, at most, and at first."""
    if not isinstance(thing, tuple) or len(thing) != 4 or not is_word(thing[0]):
        return False
    name, low, high, first = thing
    if not is_number(low) or not is_number(high) or not is_number(first):
        return False
    return low <= first <= high


def _is_door(thing):
    return is_word_pair(thing) and thing[0] < thing[1]


def _is_digit(thing):
    return is_number(thing) and 0 <= thing <= 9
