"""PIECES read line by line."""

# The first words of lines of PIECES, and the sorts of the words behind; "text" is unlike all.
PIECE_SLOTS = {
    "worth": ("SUM",),
    "place": ("figure",),
    "if": ("TEST",),
    "only": ("reader",),
    "break": (),
    "glue": (),
}
PIECE_WORDS = ("text", "worth", "place", "if", "only", "break", "glue")
BIT_WORDS = ("text", "worth", "place", "if", "break", "glue")


def pieces_read(lines, first_words):
    """The PIECES that the next lines write, as long as one begins with such a first word.

    A block is what is open by "if" or "only": its head, the PIECES ahead of it, and the
    parts of it that are closed.
    """
    blocks = []
    pieces = []
    while True:
        word = lines.first_word()
        if word in ("if", "only") and word in first_words:
            blocks.append(((word, *lines.taken(PIECE_SLOTS[word])), pieces, []))
            pieces = []
        elif word in first_words:
            pieces.append(_plain_piece(lines, word))
        elif not blocks:
            return tuple(pieces)
        elif word != _closing(blocks[-1]):
            lines.refuse()
        else:
            lines.taken(())
            head, ahead, closed = blocks[-1]
            closed.append(tuple(pieces))
            pieces = []
            if word == "done":
                blocks.pop()
                pieces = ahead
                pieces.append((*head, *closed))


def _closing(block):
    """The word that closes the part of a block that is open."""
    head, _, closed = block
    return "else" if head[0] == "if" and not closed else "done"


def _plain_piece(lines, word):
    """The PIECE that the next line writes, if it opens no block."""
    if word == "text":
        return ("text", lines.taken_text())
    inner = lines.taken(PIECE_SLOTS[word])
    return ("end",) if word == "break" else (word, *inner)
