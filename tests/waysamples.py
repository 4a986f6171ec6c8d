"""Stories to be gone through in all ways, for what is told of stands in reach, endings, papers."""

from tests.pairsamples import NEVER, walk
from tests.samples import choice, scene, stand, story

ONE_MORE = ("set", "n", ("plus", ("of", "n"), ("num", 1)))
N = (("n", 0, 9, 0),)

# From a to d, which ends: by b and c, or by c at once; and back from c to a.
ROUND = walk("ax>b", "ay>c", "bx>c", "cx>d", "cy>a", ending="end")
ROUND_STANDS = tuple(stand(scene=name) for name in "abcd")
ROUND_HEIGHTS = tuple(zip(ROUND_STANDS, (0, 1, 1, 2)))

# A number that grows as long as it is below three, and that nothing behind b asks for.
GROWS = walk(
    ("ax>a", {"test": ("is", ("of", "n"), "<", ("num", 3)), "deeds": (ONE_MORE,)}), "ay>b", ("bx>b", {"deeds": (("set", "n", ("num", 9)),)}),
    ("by>d", {"deeds": (("set", "n", ("num", 7)),)}), numbers=N, ending="end",
)
GROWS_LEAN = tuple(stand(numbers=(n,)) for n in range(4)) + tuple(stand(scene=name, numbers=(0,)) for name in "bd")

# Two endings, one of which is never come to; and a scene that is no ending.
TWO_ENDS = story(
    scene("a", choices=(choice("x", ("to", "b")), choice("y", ("to", "c")), choice("z", ("to", "e"), test=NEVER))),
    scene("b", choices=(choice("x", ("to", "c")),)), scene("c", choices=(choice("x", ("to", "d")),)),
    scene("d", ending="good"), scene("e", ending="bad"),
)

# Ends where it begins.
ENDED = story(scene("a", choices=(choice("x", ("to", "b")),), ending="end"), scene("b", ending="other"))


def at(name, number=0):
    return stand(scene=name, numbers=(number,))


def pairs_of(words):
    """Choices from words as "a.x b.y"."""
    return tuple(tuple(word.split(".")) for word in words.split())
