"""What SUMS, TESTS and PIECES come to by Facts; without calls within calls, so they may be however deep."""

from forktales.memory import place_in


def worth_by(facts, amount):
    """The WORTH of a SUM."""
    worth = 0
    left = [(amount, 1)]
    while left:
        part, sign = left.pop()
        word = part[0]
        if word == "num":
            worth += sign * part[1]
        elif word == "of":
            worth += sign * facts.numbers[part[1]]
        elif word == "seen":
            worth += sign * facts.seen[part[1]]
        else:
            left.append((part[1], sign))
            left.append((part[2], sign if word == "plus" else -sign))
    return worth


def is_met_by(facts, test):
    """Whether a TEST is met.

    blocks are the TESTS in which the next one stands, pairs of a word and what has yet to
    be asked there: as long as truth is what it is for none ("not" asks as "any" does).
    """
    blocks = [("all", [test])]
    truth = True
    while blocks:
        word, left = blocks[-1]
        if left and truth == (word == "all"):
            inner = left.pop()
            if inner[0] in ("all", "any"):
                blocks.append((inner[0], list(inner[1])))
                truth = inner[0] == "all"
            elif inner[0] == "not":
                blocks.append(("not", [inner[1]]))
                truth = False
            else:
                truth = _is_so(facts, inner)
        else:
            blocks.pop()
            if word == "not":
                truth = not truth
    return truth


def lines_by(facts, pieces, reader):
    """The LINES to which PIECES COME, for a reader or None."""
    # a glue takes away the ends beside it; other ends that have no text at one side part no LINES
    glued = "".join([part.strip("\n") for part in _text_by(facts, pieces, reader).split("\t")])
    lines = [line.strip(" ") for line in glued.split("\n")]
    return tuple([line for line in lines if line])


def _is_so(facts, test):
    """Whether a TEST is met in which no others stand."""
    word = test[0]
    if word == "at":
        return place_in(facts.wheres, test[1]) == test[2]
    if word == "with":
        return facts.wheres[test[1]] == ("with", test[2])
    one = worth_by(facts, test[1])
    other = worth_by(facts, test[3])
    if test[2] == "<":
        return one < other
    return one > other if test[2] == ">" else one == other


def _text_by(facts, pieces, reader):
    """All that PIECES come to as one text: a line end for each end, a tab for each glue.

    No text of a story has such signs.
    """
    told = []
    left = list(pieces[::-1])
    while left:
        piece = left.pop()
        word = piece[0]
        if word == "text":
            told.append(piece[1])
        elif word == "worth":
            told.append(str(worth_by(facts, piece[1])))
        elif word == "place":
            told.append(place_in(facts.wheres, piece[1]))
        elif word == "if":
            inner = piece[2] if is_met_by(facts, piece[1]) else piece[3]
            left.extend(inner[::-1])
        elif word == "only":
            left.extend(piece[2][::-1] if piece[1] == reader else ())
        else:
            told.append("\n" if word == "end" else "\t")
    return "".join(told)
