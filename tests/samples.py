"""Stories, logs and their texts, written by hand both ways."""

ALWAYS = ("all", ())
BIG = int("9" * 60)

# Each sort of line of a story's text, and each sort of part.
INN_TEXT = """number coin 0 9 3
number debt -999999999999999999999999999999999999999999999999999999999999 0 -5
place attic
place cellar
place hall
door attic hall
door cellar hall
figure ann hall
figure bob cellar
digits 3 1 4
begin hall
scene cellar
scene hall
text The hall.
text 
text   two blanks  
worth minus of coin num -12
break
place ann
glue
if all 2 at ann cellar not with ann bob
only cat
text dark
if any 0
glue
else
done
done
else
worth plus seen hall of debt
done
if is num 0 = num 0
else
break
done
only bob
done
choice descend
when all 0
set coin plus of coin num 1
draw debt
go ann cellar
put bob hall
join ann bob
leave bob
into cellar hall
once open
text Open it, 
place bob
if with bob ann
break
else
glue
done
worth of coin
when any 3 is seen hall > num 2 at bob hall not all 1 is of debt < of coin
back
choice wait
when not any 0
to hall
woven cellar hall
ending good
scene loft
ending bad
scene zoo
only ann
text z
done
choice a
when all 0
to zoo
woven loft"""

INN = (
    (("coin", 0, 9, 3), ("debt", -BIG, 0, -5)),
    ("attic", "cellar", "hall"),
    (("attic", "hall"), ("cellar", "hall")),
    (("ann", "hall"), ("bob", "cellar")),
    (3, 1, 4),
    (
        ("cellar", (), (), (), None),
        (
            "hall",
            (
                ("text", "The hall."),
                ("text", ""),
                ("text", "  two blanks  "),
                ("worth", ("minus", ("of", "coin"), ("num", -12))),
                ("end",),
                ("place", "ann"),
                ("glue",),
                (
                    "if",
                    ("all", (("at", "ann", "cellar"), ("not", ("with", "ann", "bob")))),
                    (("only", "cat", (("text", "dark"), ("if", ("any", ()), (("glue",),), ()))),),
                    (("worth", ("plus", ("seen", "hall"), ("of", "debt"))),),
                ),
                ("if", ("is", ("num", 0), "=", ("num", 0)), (), (("end",),)),
                ("only", "bob", ()),
            ),
            (
                (
                    "descend",
                    (),
                    ALWAYS,
                    False,
                    (
                        ("set", "coin", ("plus", ("of", "coin"), ("num", 1))),
                        ("draw", "debt"),
                        ("go", "ann", "cellar"),
                        ("put", "bob", "hall"),
                        ("join", "ann", "bob"),
                        ("leave", "bob"),
                    ),
                    ("into", "cellar", "hall"),
                ),
                (
                    "open",
                    (
                        ("text", "Open it, "),
                        ("place", "bob"),
                        ("if", ("with", "bob", "ann"), (("end",),), (("glue",),)),
                        ("worth", ("of", "coin")),
                    ),
                    (
                        "any",
                        (
                            ("is", ("seen", "hall"), ">", ("num", 2)),
                            ("at", "bob", "hall"),
                            ("not", ("all", (("is", ("of", "debt"), "<", ("of", "coin")),))),
                        ),
                    ),
                    True,
                    (),
                    ("back",),
                ),
                ("wait", (), ("not", ("any", ())), False, (), ("to", "hall")),
            ),
            ("cellar", "hall"),
            "good",
        ),
        ("loft", (), (), (), "bad"),
        (
            "zoo",
            (("only", "ann", (("text", "z"),)),),
            (("a", (), ALWAYS, False, (), ("to", "zoo")),),
            ("loft",),
            None,
        ),
    ),
    "hall",
)

VOID = ((), (), (), (), (), (), "hall")
VOID_TEXT = "digits\nbegin hall"

# Each sort of row; the stories are 2 and 3 lines long, and one of them is INN.
SMALL = ((), (), (), (), (7,), (("b", (), (), (), None),), "a")
SMALL_TEXT = "digits 7\nbegin a\nscene b"

LOG = (
    ("house", SMALL, ("ann", "bob"), "turns"),
    ("come", "cat"),
    ("go", "ann"),
    ("pick", "bob", ("hall", "open")),
    ("vote", "nobody", ("x", "y")),
    ("edit", VOID, ((("a", "b"), ("b", "a")), ((("a", "c"), ("b", "d")), (("b", "c"), ("a", "x"))))),
    ("back", 2),
    ("edit", INN, ((), ())),
    ("back", -BIG),
    ("back", 0),
)

LOG_TEXT = "\n".join([
    "house turns ann,bob 3",
    SMALL_TEXT,
    "come cat",
    "go ann",
    "pick bob hall open",
    "vote nobody x y",
    "edit 2 a>b,b>a a.c>b.d,b.c>a.x",
    VOID_TEXT,
    "back 2",
    "edit " + str(len(INN_TEXT.split("\n"))) + " - -",
    INN_TEXT,
    "back -" + "9" * 60,
    "back 0",
])


def scene(name, *, pieces=(), choices=(), woven=(), ending=None):
    return (name, pieces, choices, woven, ending)


def choice(name, leads=("back",), *, label=(), test=ALWAYS, once=False, deeds=()):
    return (name, label, test, once, deeds, leads)


def story(*scenes, begin="a", numbers=(), places=(), doors=(), figures=(), digits=()):
    return (numbers, places, doors, figures, digits, tuple(sorted(scenes)), begin)
