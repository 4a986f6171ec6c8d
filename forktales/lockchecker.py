"""Whether any thing is a LOCK PAPER of an ENDING."""

from forktales.heights import check_ending
from forktales.locksteps import LockSteps
from forktales.orders import rises
from forktales.paperfaults import row_fault
from forktales.refusing import refuse
from forktales.scenekinds import is_tuple_of, is_word_pair
from forktales.standfaults import stand_fault


def lets_lock(story, ending, thing):
    """How many CHOICES the LOCK of a LOCK PAPER has, None of "none"; any other thing is refused."""
    check_ending(story, ending)
    steps = LockSteps(story)
    if _is_none(thing):
        refuse(_bar_fault(steps, ending, thing[1], None))
        return None
    refuse(_lock_fault(steps, ending, thing) if _is_lock(thing) else ("shape", -1))
    return len(thing[1])


def _is_none(thing):
    return isinstance(thing, tuple) and len(thing) == 2 and thing[0] == "none" and is_tuple_of(thing[1], _is_bar_pair)


def _is_lock(thing):
    if not isinstance(thing, tuple) or len(thing) != 4 or thing[0] != "lock":
        return False
    return (
        is_tuple_of(thing[1], is_word_pair)
        and is_tuple_of(thing[2], is_word_pair)
        and is_tuple_of(thing[3], _is_bar_pair)
    )


def _is_bar_pair(thing):
    return isinstance(thing, tuple) and len(thing) == 2 and is_tuple_of(thing[0], is_word_pair)


def _lock_fault(steps, ending, thing):
    """The fault of what has the shape of LIFTED ones, a row with them, and a bar."""
    _, lifted, row, bar = thing
    tale = steps.lean_steps.tale
    for k, choice in enumerate(lifted):
        if tale.choice_of(choice) is None or (k > 0 and not lifted[k - 1] < choice):
            return ("lifted", k)
    return row_fault(tale, tale.first(), row, lifted, (ending,)) or _bar_fault(steps, ending, bar, len(lifted))


def _bar_fault(steps, ending, bar, many):
    """The fault of a bar of pairs with fewer than so many laid each, of None with however many."""
    for k, pair in enumerate(bar):
        word = _pair_word(steps, ending, pair, many, bar[k - 1] if k > 0 else None)
        if word is not None:
            return (word, k)
    there = {pair: True for pair in bar}
    if many != 0 and steps.first_pair() not in there:
        return ("first", -1)
    for k, pair in enumerate(bar):
        for j, _, after in steps.steps(pair):
            if after not in there and _are_few(after[0], many):
                return ("step", (k, j))
    return None


def _pair_word(steps, ending, pair, many, ahead):
    """The word by which a pair of a bar is refused, None of none; ahead is the one ahead, None of the first."""
    laid, stand = pair
    lean_steps = steps.lean_steps
    are_choices = all([lean_steps.tale.choice_of(choice) is not None for choice in laid])
    if not rises(laid) or not are_choices or not _are_few(laid, many):
        return "laid"
    if stand_fault(lean_steps.tale, stand) is not None:
        return "stand"
    if not lean_steps.is_lean(stand):
        return "lean"
    if ahead is not None and not ahead < pair:
        return "rise"
    return "sooner" if steps.ending(stand) == ending else None


def _are_few(laid, many):
    return many is None or len(laid) < many
