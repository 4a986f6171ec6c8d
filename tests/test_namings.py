"""NAMINGS of SCENES."""

import unittest

from forktales.namings import namings_of
from tests.helpers import told
from tests.samples import INN, choice, scene


class Namings(unittest.TestCase):
    def of(self, *words, **parts):
        """Whether the namings of a scene of these parts are these, sort:name."""
        namings = told(namings_of, scene=scene("a", **parts))
        self.assertIs(type(namings), tuple)
        self.assertEqual(namings, tuple(tuple(word.split(":")) for word in words))

    def test_none(self):
        self.of()
        self.of(pieces=(("text", "a"), ("end",), ("glue",), ("worth", ("num", 1))), ending="good")
        self.of(choices=(choice("b", label=(("text", "b"),), once=True),))

    def test_sums(self):
        self.of("number:n", pieces=(("worth", ("of", "n")),))
        self.of("scene:s", pieces=(("worth", ("seen", "s")),))
        self.of("number:n", "scene:s", pieces=(("worth", ("plus", ("of", "n"), ("seen", "s"))),))
        self.of("scene:s", "number:n", pieces=(("worth", ("minus", ("seen", "s"), ("of", "n"))),))
        self.of("number:b", "number:a", "number:b", "number:b",
                pieces=(("worth", ("plus", ("minus", ("of", "b"), ("of", "a")), ("plus", ("of", "b"), ("of", "b")))),))

    def test_tests(self):
        def of(test, *words):
            self.of(*words, choices=(choice("c", test=test),))
        of(("is", ("of", "b"), "<", ("seen", "a")), "number:b", "scene:a")
        of(("at", "f", "p"), "figure:f", "place:p")
        of(("with", "g", "f"), "figure:g", "figure:f")
        of(("not", ("at", "f", "p")), "figure:f", "place:p")
        of(("all", (("at", "z", "z"), ("with", "a", "a"))), "figure:z", "place:z", "figure:a", "figure:a")
        of(("any", (("all", (("at", "b", "a"),)), ("is", ("num", 1), "=", ("of", "x")))),
           "figure:b", "place:a", "number:x")
        of(("any", ()))

    def test_pieces(self):
        self.of("figure:f", pieces=(("place", "f"),))
        self.of("figure:f", pieces=(("only", "r", (("place", "f"),)),))
        self.of("number:t", "number:z", "number:y", "number:o", pieces=(
            ("if", ("is", ("of", "t"), "<", ("num", 0)), (("worth", ("of", "z")), ("worth", ("of", "y"))),
             (("worth", ("of", "o")),)),
        ))
        self.of("figure:b", "figure:b", "figure:a", pieces=(("place", "b"), ("place", "b"), ("place", "a")))
        self.of("figure:q", "figure:p", "figure:o", pieces=(
            ("only", "x", (("if", ("any", ()), (("only", "y", (("place", "q"),)),), (("place", "p"),)),)),
            ("place", "o"),
        ))

    def test_deeds(self):
        def of(deed, *words):
            self.of(*words, choices=(choice("c", deeds=(deed,)),))
        of(("set", "n", ("plus", ("of", "m"), ("seen", "s"))), "number:n", "number:m", "scene:s")
        of(("draw", "n"), "number:n")
        of(("go", "f", "p"), "figure:f", "place:p")
        of(("put", "f", "p"), "figure:f", "place:p")
        of(("join", "f", "g"), "figure:f", "figure:g")
        of(("leave", "f"), "figure:f")

    def test_nexts(self):
        self.of("scene:s", choices=(choice("c", ("to", "s")),))
        self.of("scene:t", "scene:s", choices=(choice("c", ("into", "t", "s")),))
        self.of("scene:t", "scene:t", choices=(choice("c", ("into", "t", "t")),))
        self.of(choices=(choice("c", ("back",)),))

    def test_woven(self):
        self.of("scene:z", "scene:a", "scene:b", woven=("z", "a", "b"))

    def test_the_order_of_all(self):
        first = choice("y", ("into", "h", "g"), label=(("place", "d"),), test=("at", "e", "f"),
                       deeds=(("draw", "x"), ("go", "j", "k")))
        second = choice("x", ("to", "l"), label=(("worth", ("of", "m")),), once=True, test=("is", ("of", "n"), "=", ("num", 0)))
        self.of(
            "scene:b", "number:a", "figure:d", "figure:e", "place:f", "number:x", "figure:j", "place:k", "scene:h",
            "scene:g", "number:m", "number:n", "scene:l", "scene:w", "scene:v",
            pieces=(("worth", ("seen", "b")), ("worth", ("of", "a"))), choices=(first, second), woven=("w", "v"),
        )

    def test_one_word_in_all_places(self):
        parts = {"pieces": (("place", "a"), ("worth", ("of", "a")), ("only", "a", (("worth", ("seen", "a")),))), "woven": ("a",),
                 "choices": (choice("a", ("to", "a"), test=("at", "a", "a")),), "ending": "a"}
        self.of("figure:a", "number:a", "scene:a", "figure:a", "place:a", "scene:a", "scene:a", **parts)

    def test_a_scene_with_each_sort_of_part(self):
        words = (
            "number:coin figure:ann figure:ann place:cellar figure:ann figure:bob scene:hall number:debt "
            "number:coin number:coin number:debt figure:ann place:cellar figure:bob place:hall figure:ann figure:bob "
            "figure:bob scene:cellar scene:hall "
            "figure:bob figure:bob figure:ann number:coin scene:hall figure:bob place:hall number:debt number:coin "
            "scene:hall scene:cellar scene:hall"
        )
        namings = told(namings_of, scene=INN[5][1])
        self.assertEqual(" ".join(":".join(naming) for naming in namings), words)


if __name__ == "__main__":
    unittest.main()
