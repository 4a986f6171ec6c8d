"""What stands in each part of a story, slot by slot.

A slot's sort in capitals is that of a part with slots of its own, or of a list of such
parts; one in small letters is that of a leaf.
"""

# Parts that begin with a word: their slots behind it. A BIT is a PIECE of a label; the
# leaf "asked" is a scene that "seen" names.
SHAPES = {
    ("SUM", "num"): ("count",),
    ("SUM", "of"): ("number",),
    ("SUM", "seen"): ("asked",),
    ("SUM", "plus"): ("SUM", "SUM"),
    ("SUM", "minus"): ("SUM", "SUM"),
    ("TEST", "is"): ("SUM", "sign", "SUM"),
    ("TEST", "at"): ("figure", "place"),
    ("TEST", "with"): ("figure", "figure"),
    ("TEST", "not"): ("TEST",),
    ("TEST", "all"): ("TESTS",),
    ("TEST", "any"): ("TESTS",),
    ("PIECE", "text"): ("line",),
    ("PIECE", "worth"): ("SUM",),
    ("PIECE", "place"): ("figure",),
    ("PIECE", "if"): ("TEST", "PIECES", "PIECES"),
    ("PIECE", "only"): ("reader", "PIECES"),
    ("PIECE", "end"): (),
    ("PIECE", "glue"): (),
    ("BIT", "text"): ("line",),
    ("BIT", "worth"): ("SUM",),
    ("BIT", "place"): ("figure",),
    ("BIT", "if"): ("TEST", "BITS", "BITS"),
    ("BIT", "end"): (),
    ("BIT", "glue"): (),
    ("DEED", "set"): ("number", "SUM"),
    ("DEED", "draw"): ("number",),
    ("DEED", "go"): ("figure", "place"),
    ("DEED", "put"): ("figure", "place"),
    ("DEED", "join"): ("figure", "figure"),
    ("DEED", "leave"): ("figure",),
    ("NEXT", "to"): ("scene",),
    ("NEXT", "into"): ("scene", "scene"),
    ("NEXT", "back"): (),
}

# The sorts that SHAPES is of.
WORDED = ("SUM", "TEST", "PIECE", "BIT", "DEED", "NEXT")

# Parts that begin with no word: all their slots.
ROWS = {
    "CHOICE": ("own", "BITS", "TEST", "once", "DEEDS", "NEXT"),
    "SCENE": ("own", "PIECES", "CHOICES", "WOVEN", "ending"),
}

# Lists of parts: the sort of each part in one.
LISTS = {
    "TESTS": "TEST",
    "PIECES": "PIECE",
    "BITS": "BIT",
    "DEEDS": "DEED",
    "CHOICES": "CHOICE",
    "WOVEN": "scene",
}
