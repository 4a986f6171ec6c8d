"""SUMS and TESTS as words, STORIES as texts."""

from forktales.shapes import LISTS
from forktales.trees import marks_of


def sum_words(amount):
    """The words of a SUM."""
    return _words("SUM", amount)


def test_words(test):
    """The words of a TEST."""
    return _words("TEST", test)


def story_text(story):
    """The text of a STORY: its lines, a line end between two."""
    numbers, places, doors, figures, digits, scenes, begin = story
    lines = [f"number {name} {low} {high} {first}" for name, low, high, first in numbers]
    lines.extend([f"place {place}" for place in places])
    lines.extend([f"door {first} {second}" for first, second in doors])
    lines.extend([f"figure {name} {place}" for name, place in figures])
    lines.append(" ".join(["digits"] + [str(digit) for digit in digits]))
    lines.append(f"begin {begin}")
    for scene in scenes:
        lines.extend(_scene_lines(scene))
    return "\n".join(lines)


def _words(sort, part):
    """The words of a part, as they stand: of a list, how many it has."""
    words = []
    for inner_sort, head, rest in marks_of(sort, part):
        if head is None or inner_sort in LISTS:
            words.append(str(rest))
        else:
            words.append(head[0])
    return words


def _line(*words):
    return " ".join(words)


def _scene_lines(scene):
    name, pieces, choices, woven, ending = scene
    lines = [_line("scene", name)] + _piece_lines(pieces)
    for choice in choices:
        lines.extend(_choice_lines(choice))
    if woven:
        lines.append(_line("woven", *woven))
    if ending is not None:
        lines.append(_line("ending", ending))
    return lines


def _choice_lines(choice):
    name, label, test, once, deeds, leads = choice
    lines = [_line("once" if once else "choice", name)] + _piece_lines(label)
    lines.append(" ".join(["when"] + test_words(test)))
    lines.extend([" ".join(_words("DEED", deed)) for deed in deeds])
    lines.append(" ".join(_words("NEXT", leads)))
    return lines


def _piece_lines(pieces):
    """The lines of PIECES; what is left is PIECES, and lines that close or part them."""
    lines = []
    left = list(pieces[::-1])
    while left:
        part = left.pop()
        if isinstance(part, str):
            lines.append(part)
        elif part[0] == "if":
            lines.append(" ".join(["if"] + test_words(part[1])))
            left.extend(["done", *part[3][::-1], "else", *part[2][::-1]])
        elif part[0] == "only":
            lines.append(_line("only", part[1]))
            left.extend(["done", *part[2][::-1]])
        else:
            lines.append(_plain_line(part))
    return lines


def _plain_line(piece):
    """The line of a PIECE in which no others stand."""
    if piece[0] == "end":
        return "break"
    return " ".join(_words("PIECE", piece))
