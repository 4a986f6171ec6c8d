"""Stories, logs and their texts, written by hand both ways."""

ALWAYS = ("all", ())
BIG = int("9" * 60)

# Each sort of line of a story's text, and each sort of part.
INN_TEXT = """number coin 0 9 3
number debt -999999999999999999999999999999999999999999999999999999999999 0 -5
place attic
place cellar
place hall
door attic hall
door cellar hall
figure ann hall
figure bob cellar
digits 3 1 4
begin hall
scene cellar
scene hall
text The hall.
text 
text   two blanks  
worth minus of coin num -12
break
place ann
glue
if all 2 at ann cellar not with ann bob
only cat
text dark
if any 0
glue
else
done
done
else
worth plus seen hall of debt
done
if is num 0 = num 0
else
break
done
only bob
done
choice descend
when all 0
set coin plus of coin num 1
draw debt
go ann cellar
put bob hall
join ann bob
leave bob
into cellar hall
once open
text Open it, 
place bob
if with bob ann
break
else
glue
done
worth of coin
when any 3 is seen hall > num 2 at bob hall not all 1 is of debt < of coin
back
choice wait
when not any 0
to hall
woven cellar hall
ending good
scene loft
ending bad
scene zoo
only ann
text z
done
choice a
when all 0
to zoo
woven loft"""

INN = (
    (("coin", 0, 9, 3), ("debt", -BIG, 0, -5)),
    ("attic", "cellar", "hall"),
    (("attic", "hall"), ("cellar", "hall")),
    (("ann", "hall"), ("bob", "cellar")),
    (3, 1, 4),
    (
        ("cellar", (), (), (), None),
        (
            "hall",
            (
                ("text", "The hall."),
                ("text", ""),
                ("text", "  two blanks  "),
                ("worth", ("minus", ("of", "coin"), ("num", -12))),
                ("end",),
                ("place", "ann"),
                ("glue",),
                (
                    "if",
                    ("all", (("at", "ann", "cellar"), ("not", ("with", "ann", "bob")))),
                    (("only", "cat", (("text", "dark"), ("if", ("any", ()), (("glue",),), ()))),),
                    (("worth", ("plus", ("seen", "hall"), ("of", "debt"))),),
                ),
                ("if", ("is", ("num", 0), "=", ("num", 0)), (), (("end",),)),
                ("only", "bob", ()),
            ),
            (
                (
                    "descend",
                    (),
                    ALWAYS,
                    False,
                    (
                        ("set", "coin", ("plus", ("of", "coin"), ("num", 1))),
                        ("draw", "debt"),
                        ("go", "ann", "cellar"),
                        ("put", "bob", "hall"),
                        ("join", "ann", "bob"),
                        ("leave", "bob"),
                    ),
                    ("into", "cellar", "hall"),
                ),
                (
                    "open",
                    (
                        ("text", "Open it, "),
                        ("place", "bob"),
                        ("if", ("with", "bob", "ann"), (("end",),), (("glue",),)),
                        ("worth", ("of", "coin")),
                    ),
                    (
                        "any",
                        (
                            ("is", ("seen", "hall"), ">", ("num", 2)),
                            ("at", "bob", "hall"),
                            ("not", ("all", (("is", ("of", "debt"), "<", ("of", "coin")),))),
                        ),
                    ),
                    True,
                    (),
                    ("back",),
                ),
                ("wait", (), ("not", ("any", ())), False, (), ("to", "hall")),
            ),
            ("cellar", "hall"),
            "good",
        ),
        ("loft", (), (), (), "bad"),
        (
            "zoo",
            (("only", "ann", (("text", "z"),)),),
            (("a", (), ALWAYS, False, (), ("to", "zoo")),),
            ("loft",),
            None,
        ),
    ),
    "hall",
)

VOID = ((), (), (), (), (), (), "hall")
VOID_TEXT = "digits\nbegin hall"

# Each sort of row; the stories are 2 and 3 lines long, and one of them is INN.
SMALL = ((), (), (), (), (7,), (("b", (), (), (), None),), "a")
SMALL_TEXT = "digits 7\nbegin a\nscene b"

LOG = (
    ("house", SMALL, ("ann", "bob"), "turns"),
    ("come", "cat"),
    ("go", "ann"),
    ("pick", "bob", ("hall", "open")),
    ("vote", "nobody", ("x", "y")),
    ("edit", VOID, ((("a", "b"), ("b", "a")), ((("a", "c"), ("b", "d")), (("b", "c"), ("a", "x"))))),
    ("back", 2),
    ("edit", INN, ((), ())),
    ("back", -BIG),
    ("back", 0),
)

LOG_TEXT = "\n".join([
    "house turns ann,bob 3",
    SMALL_TEXT,
    "come cat",
    "go ann",
    "pick bob hall open",
    "vote nobody x y",
    "edit 2 a>b,b>a a.c>b.d,b.c>a.x",
    VOID_TEXT,
    "back 2",
    "edit " + str(len(INN_TEXT.split("\n"))) + " - -",
    INN_TEXT,
    "back -" + "9" * 60,
    "back 0",
])


def scene(name, *, pieces=(), choices=(), woven=(), ending=None):
    return (name, pieces, choices, woven, ending)


def choice(name, leads=("back",), *, label=(), test=ALWAYS, once=False, deeds=()):
    return (name, label, test, once, deeds, leads)


def story(*scenes, begin="a", numbers=(), places=(), doors=(), figures=(), digits=()):
    return (numbers, places, doors, figures, digits, tuple(sorted(scenes)), begin)


# A WHOLE story to be gone through: places in a row with a door between two neighbours.
TOUR = story(
    scene(
        "hall",
        pieces=(("text", "The hall, "), ("place", "ann"), ("end",), ("only", "pia", (("text", "psst "), ("worth", ("of", "coin"))))),
        choices=(
            choice("enter", ("into", "vault", "hall"), label=(("text", "Enter for "), ("worth", ("of", "coin")))),
            choice("pay", ("to", "yard"), test=("is", ("of", "coin"), ">", ("num", 1)), once=True,
                   deeds=(("set", "coin", ("minus", ("of", "coin"), ("num", 2))), ("go", "ann", "inn"))),
        ),
        woven=("map",),
    ),
    scene("map", pieces=(("text", "never shown"),), choices=(choice("look", ("to", "map"), test=("is", ("seen", "map"), "<", ("num", 2))),)),
    scene("vault", choices=(choice("out", ("back",), deeds=(("draw", "luck"),)), choice("deep", ("into", "vault", "vault")))),
    scene("yard", pieces=(("text", "out"),), choices=(choice("go", ("to", "hall")),), ending="free"),
    begin="hall",
    numbers=(("coin", 0, 9, 3), ("luck", -9, 9, -1)),
    places=("attic", "inn", "lake", "road"),
    doors=(("attic", "inn"), ("inn", "lake"), ("lake", "road")),
    figures=(("ann", "lake"), ("bob", "road"), ("cat", "road")),
    digits=(3, 0, 7),
)

TOUR_FIRST = ("hall", (), (3, -1), (("at", "lake"), ("at", "road"), ("at", "road")), (("map", 0),), (), 0)


def stand(*, scene="a", stack=(), numbers=(), wheres=(), seen=(), made=(), digit=0):
    return (scene, stack, numbers, wheres, seen, made, digit)


def at_with(text):
    """WHERES from words as "lake road =ann", a sign = ahead of one who is with that one."""
    return tuple(("with", word[1:]) if word[0] == "=" else ("at", word) for word in text.split(" "))


def changed(thing, **parts):
    """A STAND with some of its parts as told."""
    names = ("scene", "stack", "numbers", "wheres", "seen", "made", "digit")
    return tuple(parts.get(name, old) for name, old in zip(names, thing))


def largest():
    """A WHOLE story of the bounds' size, all that can be asked asked."""
    figures = ("ann", "bob", "cat", "dan")
    numbers = ("one", "three", "two", "zero")
    scenes = "abcdefgh"
    amount = ("of", "one")
    for name in ("three", "two", "zero"):
        amount = ("plus", ("seen", scenes[len(name)]), ("minus", amount, ("of", name)))
    test = ("is", ("seen", "a"), "<", ("of", "one"))
    for word in ("any", "all", "not"):
        test = (word, test) if word == "not" else (word, (test,) + tuple(("at", name, "inn") for name in figures) + (("with", "ann", "bob"),))
    pieces = (("worth", amount),)
    for name in figures[:3]:
        pieces = (("text", name), ("if", test, pieces, (("end",),)), ("glue",), ("place", name), ("only", name, pieces), ("end",))
    label = (("text", "to "), ("worth", amount), ("if", test, (("text", "now"),), ()))
    deeds = (("set", "one", amount), ("draw", "two"), ("put", "ann", "inn"), ("join", "bob", "ann"), ("go", "cat", "lake"), ("leave", "dan"))
    rows = []
    for k, name in enumerate(scenes):
        other = scenes[(k + 1) % 8]
        choices = (
            choice("w", ("to", other), label=label, test=test, once=True, deeds=deeds), choice("x", ("into", other, name), label=label),
            choice("y", ("back",), test=test), choice("z", ("to", name), once=True, deeds=deeds[:1]),
        )
        rows.append(scene(name, pieces=pieces, choices=choices, woven=tuple(scenes[(k + j) % 8] for j in (1, 2, 3)),
                          ending="end" if name == "h" else None))
    return story(
        *rows, numbers=tuple((name, 0, 9, k) for k, name in enumerate(numbers)), places=("attic", "inn", "lake", "road", "wood"),
        doors=(("attic", "inn"), ("inn", "lake"), ("lake", "road"), ("road", "wood")), figures=tuple((name, "inn") for name in figures),
        digits=(1, 2, 3, 4, 5, 6),
    )
