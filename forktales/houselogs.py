"""Whether any thing is a LOG of a house."""

from forktales.scenekinds import is_story, is_word_pair, is_word_row
from forktales.tables import is_table
from forktales.talekinds import is_number, is_word

WAYS = ("turns", "votes", "any")


def is_log(thing):
    """Whether a thing is a LOG: the row of a house, then rows of deeds, by kind alone."""
    if not isinstance(thing, tuple) or not thing:
        return False
    return _is_house_row(thing[0]) and all([_is_deed_row(row) for row in thing[1:]])


def is_way(thing):
    """Whether a thing is a way of a house."""
    return isinstance(thing, str) and thing in WAYS


def _is_house_row(thing):
    if not isinstance(thing, tuple) or len(thing) != 4 or thing[0] != "house":
        return False
    _, story, readers, way = thing
    return is_story(story) and is_word_row(readers) and is_way(way)


def _is_deed_row(thing):
    if not isinstance(thing, tuple) or len(thing) not in (2, 3):
        return False
    word, first = thing[:2]
    if len(thing) == 2:
        return is_word(first) if word in ("come", "go") else word == "back" and is_number(first)
    if word == "edit":
        return is_story(first) and is_table(thing[2])
    return word in ("pick", "vote") and is_word(first) and is_word_pair(thing[2])
