"""ROWS MADE ONCE put where they are found by names."""

from forktales.rowmaking import story_rows

# What rows are of, as their first words tell.
SORTS = (
    "begin",
    "number",
    "place",
    "door",
    "figure",
    "digit",
    "asked",
    "scene",
    "pieces",
    "at",
    "choice",
    "label",
    "test",
    "deed",
)


class Ground:
    """What is looked up of a STORY; choices are pairs (scene, choice), parts are flat marks."""

    def __init__(self, rows):
        told = {word: [] for word in SORTS}
        for row in rows:
            told[row[0]].append(row[1:])
        self.bounds = {name: (low, high) for name, low, high, _ in told["number"]}
        self.places = {row[0]: True for row in told["place"]}
        self.doors = {door: True for door in told["door"]}
        self.figures = [name for name, _ in told["figure"]]
        self.digits = [row[0] for row in told["digit"]]
        self.endings = dict(told["scene"])
        self.pieces = {row[0]: _marks_in(row[1:]) for row in told["pieces"]}
        self.there = {name: [] for name in self.endings}
        for row in told["at"]:
            self.there[row[0]].append(row[1:])
        self.once = {row[:2]: row[2] for row in told["choice"]}
        self.leads = {row[:2]: row[3:] for row in told["choice"]}
        self.labels = {row[:2]: _marks_in(row[2:]) for row in told["label"]}
        self.tests = {row[:2]: _marks_in(row[2:]) for row in told["test"]}
        self.deeds = {pair: [] for pair in self.leads}
        for row in told["deed"]:
            self.deeds[row[:2]].append(_marks_in(row[2:]))
        self.first = _first(told)


def ground_of(story):
    """The Ground of a STORY."""
    return Ground(story_rows(story))


def _marks_in(row):
    return list(zip(row[::2], row[1::2]))


def _first(told):
    """The FIRST STAND."""
    begin = told["begin"][0][0]
    numbers = tuple([first for _, _, _, first in told["number"]])
    wheres = tuple([("at", place) for _, place in told["figure"]])
    return (begin, (), numbers, wheres, tuple(told["asked"]), (), 0)
