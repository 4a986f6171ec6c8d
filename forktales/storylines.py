"""The lines of a text, from which what a STORY is written of is taken one by one."""

from forktales.errors import NoText
from forktales.numberwords import count_read, digit_read, number_read
from forktales.shapes import LISTS, SHAPES, WORDED
from forktales.talekinds import is_line, is_sign, is_word
from forktales.trees import built


class StoryLines:
    """The lines of a text; at is the number of the one that is next."""

    def __init__(self, text):
        self.lines = text.split("\n")
        self.at = 0

    def is_over(self):
        """Whether no line is left."""
        return self.at == len(self.lines)

    def first_word(self):
        """The first word of the next line; the void word, which never stands, where none is left."""
        return "" if self.is_over() else self._words()[0]

    def words_behind(self):
        """How many words are behind the first one of the next line."""
        return len(self._words()) - 1

    def refuse(self):
        """Refuse the first word of the next line, or that there is none."""
        raise NoText(self.at, 0)

    def taken(self, slots, odd=None):
        """What the words behind the next line's first one write, a list, as slots tell their sorts.

        odd(words) is told the words that can stand by their sorts, the first one, too; it
        tells the place of the first that yet cannot stand, None where all can.
        """
        words = self._words()
        marks, is_whole = _marks_read(words[1:], slots)
        known = 1 + len(marks)
        wrong = None if odd is None else odd(words[:known])
        if wrong is not None:
            raise NoText(self.at, wrong)
        if not is_whole or known < len(words):
            raise NoText(self.at, known)
        self.at += 1
        return built(marks)

    def taken_part(self, sort):
        """The part, a DEED or a NEXT, that the next line writes."""
        word = self.first_word()
        if (sort, word) not in SHAPES:
            self.refuse()
        return (word, *self.taken(SHAPES[sort, word]))

    def taken_text(self):
        """The text behind the next line's first word, which is "text", and one blank."""
        _, blank, text = self.lines[self.at].partition(" ")
        if not blank or not is_line(text):
            raise NoText(self.at, 1)
        self.at += 1
        return text

    def _words(self):
        return self.lines[self.at].split(" ")


def _marks_read(words, slots):
    """The marks of the words, from the first on, that can stand in slots; whether these are full."""
    marks = []
    wanted = list(slots[::-1])
    while wanted and len(marks) < len(words):
        sort = wanted.pop()
        mark = _mark_read(sort, words[len(marks)])
        if mark is None:
            return marks, False
        marks.append(mark)
        wanted.extend(_slots_of(mark)[::-1])
    return marks, not wanted


def _mark_read(sort, word):
    """The mark of a word as one of this sort; None where it cannot stand."""
    if sort in WORDED:
        slots = SHAPES.get((sort, word))
        return None if slots is None else (sort, (word,), len(slots))
    if sort in LISTS:
        many = count_read(word)
        return None if many is None else (sort, (), many)
    leaf = _leaf_read(sort, word)
    return None if leaf is None else (sort, None, leaf)


def _slots_of(mark):
    """The sorts of what has to stand behind a mark."""
    sort, head, rest = mark
    if head is None:
        return ()
    if sort in LISTS:
        return (LISTS[sort],) * rest
    return SHAPES[sort, head[0]]


def _leaf_read(sort, word):
    """The leaf of this sort that a word writes; None where it cannot stand."""
    if sort == "count":
        return number_read(word)
    if sort == "digit":
        return digit_read(word)
    if sort == "sign":
        return word if is_sign(word) else None
    return word if is_word(word) else None
