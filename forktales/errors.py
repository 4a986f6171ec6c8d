"""The refusals: each keeps just its fields, and does not look at them."""


class TaleError(ValueError):
    """The base of refusals of things that are not as they have to be."""


class LackError(LookupError):
    """The base of refusals of names and numbers of what is not there."""


class NoPaper(TaleError):
    """A checker refuses a thing."""

    def __init__(self, word, at):
        self.word = word
        self.at = at


class NoStory(TaleError):
    """A thing is no WHOLE STORY."""

    def __init__(self, word, at):
        self.word = word
        self.at = at


class NoChoice(TaleError):
    """A choice cannot be made."""

    def __init__(self, choice, why):
        self.choice = choice
        self.why = why


class NoRow(TaleError):
    """A row of choices breaks off at its choice k."""

    def __init__(self, k, why):
        self.k = k
        self.why = why


class NoMore(TaleError):
    """There are more than so many."""

    def __init__(self, many):
        self.many = many


class NoText(TaleError):
    """A text writes nothing of the kind; word of line is the first that cannot stand."""

    def __init__(self, line, word):
        self.line = line
        self.word = word


class NoScene(LackError):
    """There is no such scene."""

    def __init__(self, name):
        self.name = name


class NoReader(LackError):
    """There is no such reader."""

    def __init__(self, name):
        self.name = name


class NoEnding(LackError):
    """There is no such ending."""

    def __init__(self, name):
        self.name = name


class NoStep(LackError):
    """There are not so many steps to go back."""

    def __init__(self, number):
        self.number = number
