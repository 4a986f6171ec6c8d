"""STANDS as texts of seven words."""

from forktales.bounds import DEEP
from forktales.commas import halves, listed, pair_read, unlisted, word_read
from forktales.numberwords import number_read
from forktales.slotwords import values_read
from forktales.talekinds import is_word


def stand_text(stand):
    """The text of a STAND."""
    scene, stack, numbers, wheres, seen, made, digit = stand
    words = [
        scene,
        listed(stack),
        listed([str(number) for number in numbers]),
        listed([":".join(where) for where in wheres]),
        listed([f"{name}:{many}" for name, many in seen]),
        listed([".".join(choice) for choice in made]),
        str(digit),
    ]
    return " ".join(words)


def stand_read(text):
    """The STAND that a text writes, by kind alone; refused with NoText at the first wrong word."""
    reads = (
        word_read,
        _stack_read,
        _numbers_read,
        _wheres_read,
        _seen_read,
        _made_read,
        number_read,
    )
    return tuple(values_read(0, text.split(" "), 0, reads))


def _stack_read(word):
    stack = unlisted(word, word_read)
    return None if stack is None or len(stack) > DEEP else stack


def _numbers_read(word):
    return unlisted(word, number_read)


def _wheres_read(word):
    return unlisted(word, _where_read)


def _where_read(part):
    where = pair_read(part, ":")
    return None if where is None or where[0] not in ("at", "with") else where


def _seen_read(word):
    return unlisted(word, _seen_pair_read)


def _seen_pair_read(part):
    pair = halves(part, ":")
    if pair is None or not is_word(pair[0]):
        return None
    many = number_read(pair[1])
    return None if many is None else (pair[0], many)


def _made_read(word):
    return unlisted(word, _choice_read)


def _choice_read(part):
    return pair_read(part, ".")
