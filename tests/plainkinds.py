"""The kinds of parts once more, straight from the document, for tests to compare with."""

LETTERS = "abcdefghijklmnopqrstuvwxyz"
SIGNS = "".join(chr(code) for code in range(32, 127) if chr(code) != "%")


def word(thing):
    return type(thing) is str and len(thing) in range(1, 9) and all(c in LETTERS for c in thing)


def number(thing):
    return type(thing) is int


def line(thing):
    return type(thing) is str and all(c in SIGNS for c in thing)


def row(thing, *kinds):
    return type(thing) is tuple and len(thing) == len(kinds) and all(kind(t) for kind, t in zip(kinds, thing))


def every(kind):
    return lambda thing: type(thing) is tuple and all(kind(part) for part in thing)


def just(text):
    return lambda thing: type(thing) is str and thing == text


def sign(thing):
    return type(thing) is str and thing in ("<", "=", ">")


def some_sum(thing):
    return (
        row(thing, just("num"), number)
        or row(thing, just("of"), word)
        or row(thing, just("seen"), word)
        or row(thing, just("plus"), some_sum, some_sum)
        or row(thing, just("minus"), some_sum, some_sum)
    )


def some_test(thing):
    return (
        row(thing, just("is"), some_sum, sign, some_sum)
        or row(thing, just("at"), word, word)
        or row(thing, just("with"), word, word)
        or row(thing, just("not"), some_test)
        or row(thing, just("all"), every(some_test))
        or row(thing, just("any"), every(some_test))
    )


def some_bit(thing):
    return (
        row(thing, just("text"), line)
        or row(thing, just("worth"), some_sum)
        or row(thing, just("place"), word)
        or row(thing, just("if"), some_test, every(some_bit), every(some_bit))
        or row(thing, just("end"))
        or row(thing, just("glue"))
    )


def some_piece(thing):
    return (
        row(thing, just("text"), line)
        or row(thing, just("worth"), some_sum)
        or row(thing, just("place"), word)
        or row(thing, just("if"), some_test, every(some_piece), every(some_piece))
        or row(thing, just("only"), word, every(some_piece))
        or row(thing, just("end"))
        or row(thing, just("glue"))
    )


def some_deed(thing):
    return (
        row(thing, just("set"), word, some_sum)
        or row(thing, just("draw"), word)
        or row(thing, just("go"), word, word)
        or row(thing, just("put"), word, word)
        or row(thing, just("join"), word, word)
        or row(thing, just("leave"), word)
    )


def some_next(thing):
    return (
        row(thing, just("to"), word)
        or row(thing, just("into"), word, word)
        or row(thing, just("back"))
    )


def truth(thing):
    return type(thing) is bool


def some_choice(thing):
    return row(thing, word, every(some_bit), some_test, truth, every(some_deed), some_next)


def unlike(things):
    return all(things[j] != things[k] for k in range(len(things)) for j in range(k))


def rising(things):
    return all(things[k - 1] < things[k] for k in range(1, len(things)))


def ending(thing):
    return thing is None or word(thing)


def some_scene(thing):
    return (
        row(thing, word, every(some_piece), every(some_choice), every(word), ending)
        and unlike([part[0] for part in thing[2]])
        and unlike(thing[3])
    )


def named(kind):
    return lambda thing: every(kind)(thing) and rising([part[0] for part in thing])


def number_row(thing):
    return row(thing, word, number, number, number) and thing[1] <= thing[3] and thing[3] <= thing[2]


def pair(thing):
    return row(thing, word, word)


def doors(thing):
    return every(pair)(thing) and all(one < other for one, other in thing) and rising(thing)


def words(thing):
    return every(word)(thing) and rising(thing)


def digit(thing):
    return number(thing) and thing in range(10)


def some_story(thing):
    return row(
        thing, named(number_row), words, doors, named(pair), every(digit), named(some_scene), word
    )


def calls(kind):
    def is_one(thing):
        if not every(lambda part: row(part, kind, kind))(thing):
            return False
        return rising([one for one, _ in thing]) and unlike([other for _, other in thing])
    return is_one


def some_table(thing):
    return row(thing, calls(word), calls(pair))


def way(thing):
    return type(thing) is str and thing in ("turns", "votes", "any")


def deed_row(thing):
    return (
        row(thing, just("come"), word)
        or row(thing, just("go"), word)
        or row(thing, just("pick"), word, pair)
        or row(thing, just("vote"), word, pair)
        or row(thing, just("edit"), some_story, some_table)
        or row(thing, just("back"), number)
    )


def some_log(thing):
    return (
        type(thing) is tuple
        and len(thing) > 0
        and row(thing[0], just("house"), some_story, words, way)
        and every(deed_row)(thing[1:])
    )
