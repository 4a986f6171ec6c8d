"""Stories that go alike, or part, for what is told of pairs of LEAN STANDS."""

from tests.samples import choice, scene, story

NEVER = ("any", ())


def walk(*choices, ending=None, **parts):
    """Scenes a to d; "ax>b" is choice x of a, to b, a pair has its test, label and so on, too."""
    own = {name: [] for name in "abcd"}
    for told in choices:
        word, more = (told, {}) if isinstance(told, str) else told
        own[word[0]].append(choice(word[1], ("to", word[3]), **more))
    rows = [scene(name, choices=tuple(own[name]), ending=ending if name == "d" else None) for name in "abcd"]
    return story(*rows, **parts)


# Two ways to c, by y at once, or by b; from c to d, or to a again.
PLAIN = walk("ax>b", "ay>c", "bx>c", "cx>d", "cy>a")

# As PLAIN, but b parts: the ROW (a, x); what is behind it is never come to but by c.
PARTS_AT_B = walk("ax>b", "ay>c", ("bx>c", {"test": NEVER}), "cx>d", "cy>a")

# Behind c: the least ROW has two choices, and there is one of three.
PARTS_AT_D = walk("ax>b", "ay>c", "bx>c", "cx>d", "cy>a", ending="end")

# Parts at once.
PARTS_AT_A = walk("ax>b", ("ay>c", {"test": NEVER}), "bx>c", "cx>d", "cy>a")


def counting(most, name="n"):
    """A story in which a number grows by y of c, as long as it is below most."""
    one_more = ("set", name, ("plus", ("of", name), ("num", 1)))
    below = ("is", ("of", name), "<", ("num", most))
    return walk("ay>c", ("cy>a", {"test": below, "deeds": (one_more,)}), numbers=((name, 0, 9, 0),))
