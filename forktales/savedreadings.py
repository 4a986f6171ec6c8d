"""LOGS read from texts."""

from forktales.commas import halves, pair_read, unlisted, word_read
from forktales.errors import NoText
from forktales.houselogs import is_way
from forktales.numberwords import number_read
from forktales.orders import rises
from forktales.scenekinds import is_word_pair
from forktales.slotwords import values_read
from forktales.storyreadings import story_read
from forktales.tables import is_calls
from forktales.talekinds import is_word


def read_saved(text):
    """The LOG that a text writes; refused with NoText at the first word that cannot stand."""
    lines = text.split("\n")
    row, at = _house_read(lines)
    log = [row]
    while at < len(lines):
        row, at = _deed_read(lines, at)
        log.append(row)
    return tuple(log)


def _house_read(lines):
    """The row of the house, and the number of the line behind it."""
    words = lines[0].split(" ")
    if words[0] != "house":
        raise NoText(0, 0)
    way, readers, many = values_read(0, words, 1, (_way_read, _readers_read, _many_read))
    return ("house", _inner_story(lines, 1, many), readers, way), 1 + many


def _deed_read(lines, at):
    """The row of a deed that begins at a line, and the number of the line behind it."""
    words = lines[at].split(" ")
    word = words[0]
    if word in ("come", "go"):
        return (word, *values_read(at, words, 1, (word_read,))), at + 1
    if word in ("pick", "vote"):
        reader, scene, choice = values_read(at, words, 1, (word_read, word_read, word_read))
        return (word, reader, (scene, choice)), at + 1
    if word == "back":
        return (word, *values_read(at, words, 1, (number_read,))), at + 1
    if word != "edit":
        raise NoText(at, 0)
    many, scenes, choices = values_read(at, words, 1, (_many_read, _scenes_read, _choices_read))
    story = _inner_story(lines, at + 1, many)
    return (word, story, (scenes, choices)), at + 1 + many


def _inner_story(lines, at, many):
    """The STORY that so many lines write, from line at on."""
    if len(lines) - at < many:
        raise NoText(len(lines), 0)
    try:
        return story_read("\n".join(lines[at : at + many]))
    except NoText as wrong:
        raise NoText(at + wrong.line, wrong.word) from None


def _way_read(word):
    return word if is_way(word) else None


def _readers_read(word):
    readers = unlisted(word, word_read)
    return None if readers is None or not rises(readers) else readers


def _many_read(word):
    many = number_read(word)
    return None if many is None or many < 1 else many


def _scenes_read(word):
    pairs = unlisted(word, _scene_pair_read)
    return pairs if is_calls(pairs, is_word) else None


def _scene_pair_read(part):
    return pair_read(part, ">")


def _choices_read(word):
    pairs = unlisted(word, _choice_pair_read)
    return pairs if is_calls(pairs, is_word_pair) else None


def _choice_pair_read(part):
    pair = halves(part, ">")
    if pair is None:
        return None
    calls = (pair_read(pair[0], "."), pair_read(pair[1], "."))
    return None if None in calls else calls
