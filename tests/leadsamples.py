"""Two stories, the tables between them and a row, for what is led over."""

from tests.samples import choice, scene, story

# From den to hill by two choices; each of the one's names is another one in OTHER.
ONE = story(
    scene("den", choices=(choice("stay", ("to", "den")), choice("up", ("to", "hill"), once=True), choice("in", ("into", "den", "hill")))),
    scene("hill", choices=(choice("down", ("to", "den")), choice("back", ("back",))), pieces=(("worth", ("seen", "hill")),)),
    begin="den", numbers=(("n", 0, 9, 0),), digits=(1,),
)
OTHER = story(
    scene("cave", choices=(choice("rest", ("to", "cave")), choice("up", ("to", "peak"), once=True), choice("in", ("into", "cave", "peak")))),
    scene("peak", choices=(choice("down", ("to", "cave")), choice("home", ("back",))), pieces=(("worth", ("seen", "peak")),)),
    begin="cave", numbers=(("n", 0, 9, 0),), digits=(1,),
)
TABLE = ((("den", "cave"), ("hill", "peak")), ((("den", "stay"), ("cave", "rest")), (("hill", "back"), ("peak", "home"))))
ROW = (("den", "stay"), ("den", "in"), ("den", "up"), ("hill", "back"), ("hill", "down"))
CALLS = (("cave", "rest"), ("cave", "in"), ("cave", "up"), ("peak", "home"), ("peak", "down"))


def at(name, *, stack=(), seen=0, made=()):
    return (name, stack, (0,), (), (("peak", seen),), made, 0)


UP = (("cave", "up"),)
STANDS = (
    at("cave"), at("cave"), at("cave", stack=("peak",)), at("peak", stack=("peak",), seen=1, made=UP),
    at("peak", seen=2, made=UP), at("cave", seen=2, made=UP),
)


def other_with(name, choices):
    """OTHER, a scene with other choices."""
    scenes = tuple((row[0], row[1], choices, *row[3:]) if row[0] == name else row for row in OTHER[5])
    return (*OTHER[:5], scenes, OTHER[6])


# In BARRED the row is refused at 2, as "up" is not met; in GONE at 3, as "home" is not there.
BARRED = other_with("cave", tuple(choice(own[0], own[5], test=("any", ())) if own[0] == "up" else own for own in OTHER[5][0][2]))
GONE = other_with("peak", OTHER[5][1][2][:1])
