"""A STORY's parts, found by names in ROWS MADE ONCE."""

from forktales.flatrows import part_of_row
from forktales.tales import Tale


class RowTale(Tale):
    """What a Tale of the STORY tells, by its ROWS alone; parts are built when they are asked for."""

    def __init__(self, rows):
        self.rows = {row[:3]: row[3:] for row in rows}
        self.choices_built = {}
        self.numbers = self._tuples("numbers", None, 4)
        self.placed = self._tuples("figures", None, 2)
        doors = self._tuples("doors", None, 2)
        places = self._row("places", None)
        Tale.__init__(self, self.numbers, places, doors, self.placed, self._row("digits", None))

    def first(self):
        """The FIRST STAND."""
        begin = self._row("begin", None)[0]
        numbers = tuple([first for _, _, _, first in self.numbers])
        wheres = tuple([("at", place) for _, place in self.placed])
        return (begin, (), numbers, wheres, self._tuples("seen", None, 2), (), 0)

    def ending(self, name):
        """The ending of a SCENE, or None."""
        return self._row("scene", name)[0]

    def pieces(self, name):
        """The PIECES of a SCENE."""
        return part_of_row(self._row("pieces", name))

    def there(self, name):
        """The CHOICES AT a SCENE, pairs."""
        return self._tuples("there", name, 2)

    def choice_of(self, pair):
        """The CHOICE of a pair (scene, choice) that there is."""
        if pair not in self.choices_built:
            scene, name = pair
            self.choices_built[pair] = part_of_row(self.rows["choice", scene, name])
        return self.choices_built[pair]

    def _row(self, word, scene):
        return self.rows[word, scene, None]

    def _tuples(self, word, scene, many):
        """The tuples of so many things that are listed in a row."""
        row = self._row(word, scene)
        return tuple([row[k : k + many] for k in range(0, len(row), many)])
