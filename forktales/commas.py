"""Lists in one word, with commas between, and pairs in one."""

from forktales.talekinds import is_word


def listed(words):
    """Words with commas between, - of none."""
    return ",".join(words) if words else "-"


def unlisted(word, read):
    """What a word with commas lists, a tuple; read tells what a part writes, None of nothing.

    None where a part writes nothing.
    """
    if word == "-":
        return ()
    things = [read(part) for part in word.split(",")]
    return None if None in things else tuple(things)


def halves(word, sign):
    """The two parts of a word that has this sign once; None of others."""
    parts = word.split(sign)
    return (parts[0], parts[1]) if len(parts) == 2 else None


def word_read(word):
    """A WORD, None where it is none."""
    return word if is_word(word) else None


def pair_read(word, sign):
    """The pair of WORDS that stand with this sign between; None where it is none."""
    pair = halves(word, sign)
    if pair is None or not is_word(pair[0]) or not is_word(pair[1]):
        return None
    return pair
