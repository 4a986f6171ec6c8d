"""TABLES: what scenes and choices of one STORY are called in another."""

from forktales.orders import rises, unlike
from forktales.scenekinds import is_word_pair
from forktales.talekinds import is_word


def is_table(thing):
    """Whether a thing is a TABLE."""
    if not isinstance(thing, tuple) or len(thing) != 2:
        return False
    return is_calls(thing[0], is_word) and is_calls(thing[1], is_word_pair)


def is_calls(thing, is_one):
    """Whether a thing is a part of a TABLE, each first and each second as told."""
    if not isinstance(thing, tuple):
        return False
    for pair in thing:
        if not isinstance(pair, tuple) or len(pair) != 2:
            return False
        if not is_one(pair[0]) or not is_one(pair[1]):
            return False
    return rises([first for first, _ in thing]) and unlike([second for _, second in thing])


def scene_call(table, name):
    """The call of a SCENE's NAME, None where it has none."""
    return _call(table[0], name, name) if is_word(name) else None


def choice_call(table, choice):
    """The call of a choice, a pair of WORDS, None where it has none."""
    if not is_word_pair(choice):
        return None
    scene = scene_call(table, choice[0])
    return _call(table[1], choice, None if scene is None else (scene, choice[1]))


def table_turned(table):
    """The TABLE with firsts and seconds exchanged."""
    scenes, choices = table
    return (_turned(scenes), _turned(choices))


def _call(pairs, thing, other):
    """The second of the pair whose first a thing is; else other, if it is no second."""
    for first, second in pairs:
        if first == thing:
            return second
    return None if other in [second for _, second in pairs] else other


def _turned(pairs):
    return tuple(sorted([(second, first) for first, second in pairs]))
