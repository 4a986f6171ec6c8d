"""LOGS saved as texts."""

from forktales.commas import listed
from forktales.storytexts import story_text


def saved_text(log):
    """The text of a LOG: its lines, a line end between two."""
    lines = []
    for row in log:
        lines.extend(_row_lines(row))
    return "\n".join(lines)


def _row_lines(row):
    """The line of a row, and the lines of the STORY in it, if there is one."""
    word = row[0]
    if word == "house":
        _, story, readers, way = row
        return _with_story(["house", way, listed(readers)], story, 3)
    if word == "edit":
        _, story, table = row
        return _with_story(["edit", *_table_words(table)], story, 1)
    if word in ("pick", "vote"):
        _, reader, choice = row
        return [" ".join([word, reader, *choice])]
    return [f"{word} {row[1]}"]


def _with_story(words, story, at):
    """The line of these words, how many lines the STORY has put in at a place, and those."""
    lines = story_text(story).split("\n")
    words.insert(at, str(len(lines)))
    return [" ".join(words)] + lines


def _table_words(table):
    scenes, choices = table
    scene_parts = [f"{one}>{other}" for one, other in scenes]
    choice_parts = [".".join(one) + ">" + ".".join(other) for one, other in choices]
    return [listed(scene_parts), listed(choice_parts)]
