"""All that stands in some parts of stories, level by level, so they may be however deep."""


def parts_within(parts):
    """Some parts and all parts in them, lists of parts among them but void ones."""
    found = []
    level = [part for part in parts if part]
    while level:
        found.extend(level)
        level = [inner for part in level for inner in part if isinstance(inner, tuple) and inner]
    return found


def parts_of_choice(choice):
    """The label, the TEST and the DEEDS of a CHOICE."""
    _, label, test, _, deeds, _ = choice
    return [label, test, deeds]
