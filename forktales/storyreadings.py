"""STORIES read from texts."""

from forktales.piecelines import BIT_WORDS, PIECE_WORDS, pieces_read
from forktales.shapes import SHAPES
from forktales.storylines import StoryLines


def story_read(text):
    """The STORY that a text writes; refused with NoText at the first word that cannot stand."""
    lines = StoryLines(text)
    numbers = _numbers(lines)
    places = _places(lines)
    doors = _doors(lines)
    figures = _figures(lines)
    _need(lines, "digits")
    digits = tuple(lines.taken(("digit",) * lines.words_behind()))
    _need(lines, "begin")
    begin = lines.taken(("scene",))[0]
    scenes = []
    while not lines.is_over():
        scenes.append(_scene(lines, scenes[-1][0] if scenes else ""))
    return (numbers, places, doors, figures, digits, tuple(scenes), begin)


def _need(lines, word):
    """Refuse the next line, if this is not its first word."""
    if lines.first_word() != word:
        lines.refuse()


def _numbers(lines):
    numbers = []
    while lines.first_word() == "number":
        last = numbers[-1][0] if numbers else ""
        slots = ("own", "count", "count", "count")
        numbers.append(tuple(lines.taken(slots, lambda words: _odd_number(words, last))))
    return tuple(numbers)


def _places(lines):
    places = []
    while lines.first_word() == "place":
        last = places[-1] if places else ""
        places.extend(lines.taken(("own",), lambda words: _odd_name(words, last)))
    return tuple(places)


def _doors(lines):
    doors = []
    while lines.first_word() == "door":
        last = doors[-1] if doors else ("", "")
        doors.append(tuple(lines.taken(("place", "place"), lambda words: _odd_door(words, last))))
    return tuple(doors)


def _figures(lines):
    figures = []
    while lines.first_word() == "figure":
        last = figures[-1][0] if figures else ""
        figures.append(tuple(lines.taken(("own", "place"), lambda words: _odd_name(words, last))))
    return tuple(figures)


def _scene(lines, last):
    """A SCENE whose NAME is above the last one."""
    _need(lines, "scene")
    name = lines.taken(("own",), lambda words: _odd_name(words, last))[0]
    pieces = pieces_read(lines, PIECE_WORDS)
    choices = []
    while lines.first_word() in ("choice", "once"):
        choices.append(_choice(lines, [choice[0] for choice in choices]))
    woven = ()
    if lines.first_word() == "woven":
        slots = ("scene",) * max(1, lines.words_behind())
        woven = tuple(lines.taken(slots, _odd_woven))
    ending = None
    if lines.first_word() == "ending":
        ending = lines.taken(("own",))[0]
    return (name, pieces, tuple(choices), woven, ending)


def _choice(lines, names):
    """A CHOICE whose NAME is none of these."""
    once = lines.first_word() == "once"
    name = lines.taken(("own",), lambda words: _odd_choice(words, names))[0]
    label = pieces_read(lines, BIT_WORDS)
    _need(lines, "when")
    test = lines.taken(("TEST",))[0]
    deeds = []
    while ("DEED", lines.first_word()) in SHAPES:
        deeds.append(lines.taken_part("DEED"))
    return (name, label, test, once, tuple(deeds), lines.taken_part("NEXT"))


def _odd_name(words, last):
    """1 where the name is not above the last one; None where it is, or lacks."""
    return 1 if len(words) > 1 and words[1] <= last else None


def _odd_number(words, last):
    """Which of a number's name, low, high, first is the first that cannot stand, or None."""
    if _odd_name(words, last) is not None:
        return 1
    if len(words) > 3 and int(words[3]) < int(words[2]):
        return 3
    if len(words) > 4 and not int(words[2]) <= int(words[4]) <= int(words[3]):
        return 4
    return None


def _odd_door(words, last):
    """Which of a door's places is the first that cannot stand, or None."""
    if len(words) > 1 and words[1] < last[0]:
        return 1
    if len(words) > 2 and (words[2] <= words[1] or (words[1], words[2]) <= last):
        return 2
    return None


def _odd_choice(words, names):
    """1 where the NAME is one of these; None where it is none, or lacks."""
    return 1 if len(words) > 1 and words[1] in names else None


def _odd_woven(words):
    """The place of the first word behind "woven" that is there twice, or None."""
    for at in range(2, len(words)):
        if words[at] in words[1:at]:
            return at
    return None
