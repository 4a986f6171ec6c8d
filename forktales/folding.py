"""Parts of stories as flat marks, and what they come to.

A flat mark is (word, rest). Word None: rest is a leaf. Word "": a list of as many parts
as rest tells. Any other word: a part that begins with it, and as many things behind it.
The last mark of a part stands first, so what a word is of is come to ahead of it, and
parts may stand in one another however deep.

PIECES come to one text, in which a line end stands for each end, a tab for each glue: no
text of a story has such signs.
"""

from forktales.memory import place_in
from forktales.trees import marks_of


def flat_marks(sort, part):
    """The flat marks of a part that is of this sort, a list."""
    marks = marks_of(sort, part)[::-1]
    return [(None if head is None else "".join(head), rest) for _, head, rest in marks]


def _num(_, amount):
    return amount


def _of(facts, name):
    return facts.numbers[name]


def _seen(facts, scene):
    return facts.seen[scene]


def _plus(_, one, other):
    return one + other


def _minus(_, one, other):
    return one - other


def _is(_, one, sign, other):
    if sign == "<":
        return one < other
    return one > other if sign == ">" else one == other


def _at(facts, figure, place):
    return place_in(facts.wheres, figure) == place


def _with(facts, figure, other):
    return facts.wheres[figure] == ("with", other)


def _not(_, test):
    return not test


def _all(_, tests):
    return all(tests)


def _any(_, tests):
    return any(tests)


def _text(_, text):
    return text


def _worth(_, amount):
    return str(amount)


def _place(facts, figure):
    return place_in(facts.wheres, figure)


def _if(_, test, pieces, others):
    return "".join(pieces if test else others)


def _only(facts, reader, pieces):
    return "".join(pieces) if reader == facts.reader else ""


def _end(_):
    return "\n"


def _glue(_):
    return "\t"


# What each word of SUMS, TESTS and PIECES makes of what its things come to.
MEANINGS = {
    "num": _num,
    "of": _of,
    "seen": _seen,
    "plus": _plus,
    "minus": _minus,
    "is": _is,
    "at": _at,
    "with": _with,
    "not": _not,
    "all": _all,
    "any": _any,
    "text": _text,
    "worth": _worth,
    "place": _place,
    "if": _if,
    "only": _only,
    "end": _end,
    "glue": _glue,
}


def folded(marks, facts):
    """What the part of such marks comes to; a DEED is told again, with WORTHS for its SUMS."""
    parts = []
    for word, rest in marks:
        if word is None:
            parts.append(rest)
        else:
            things = [parts.pop() for _ in range(rest)]
            parts.append(_meant(word, things, facts))
    return parts.pop()


def _meant(word, things, facts):
    if word == "":
        return things
    meaning = MEANINGS.get(word)
    return (word, *things) if meaning is None else meaning(facts, *things)
