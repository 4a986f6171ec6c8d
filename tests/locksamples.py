"""Stories with locks, for what is told of endings behind tests that aren't met."""

from tests.pairsamples import NEVER
from tests.samples import choice, scene, story

SHUT = {"test": NEVER}


def way(*rows, **parts):
    """Scenes from words: "a x>b !y>c" has the choices x, and y with a test that is never met; "d =end" ends."""
    scenes = []
    for row in rows:
        name, *words = row.split()
        ending = words[0][1:] if words and words[0][0] == "=" else None
        own = [choice(word.strip("!")[0], ("to", word[-1]), **(SHUT if word[0] == "!" else {})) for word in words if word[0] != "="]
        scenes.append(scene(name, choices=tuple(own), ending=ending))
    return story(*scenes, **parts)


# No lock, one of one choice, one of two, and none.
OPEN = way("a x>b !y>c", "b x>c", "c =end")
ONE_SHUT = way("a x>b !y>c", "b x>a !z>c", "c =end")
TWO_SHUT = way("a !x>b w>a", "b w>b !x>c", "c =end")
UNREACHED = way("a !x>b", "b x>a", "c =end", "d x>c")

# A chain of three, and a way around it by one.
AROUND = way("a !x>b !z>e", "b !x>c", "c !x>d", "d =end", "e x>c")

# Two locks of two: by b or by c; w isn't needed.
TWO_WAYS = way("a !x>b !y>c !w>a", "b !x>d", "c !x>d", "d =end")

# A test that is met only behind a step that is asked for one at least: once it is made.
KEY = story(
    scene("a", choices=(
        choice("take", ("to", "a"), test=NEVER, deeds=(("set", "n", ("num", 1)),)),
        choice("use", ("to", "b"), test=("is", ("of", "n"), "=", ("num", 1))), choice("cut", ("to", "c"), test=NEVER),
    )), scene("b", ending="end"), scene("c", choices=(choice("x", ("to", "b"), test=NEVER),)), numbers=(("n", 0, 1, 0),),
)

# What a deed, a stack, a choice made once bar no lock opens.
BARRED = story(
    scene("a", choices=(
        choice("deed", ("to", "b"), test=NEVER, deeds=(("set", "n", ("num", 9)),)), choice("stack", ("back",), test=NEVER),
        choice("once", ("to", "a"), test=NEVER, once=True), choice("into", ("into", "a", "a"), test=NEVER),
    )), scene("b", ending="end"), numbers=(("n", 0, 1, 0),),
)


def shut(maker, one):
    """A made story in which most choices have a test that is never met, and one scene alone ends."""
    scenes = []
    for name, pieces, choices, woven, _ in one[5]:
        own = tuple((*other[:2], NEVER if maker.one((True, True, False)) else other[2], *other[3:]) for other in choices)
        scenes.append((name, pieces, own, woven, "end" if name == "loft" else None))
    return (*one[:5], tuple(scenes), one[6])
