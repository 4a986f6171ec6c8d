"""Which NAMINGS are there in a STORY."""


def namings_there(story):
    """A dict of True, by pairs (sort, name), of all that may be named in a STORY."""
    numbers, places, _, figures, _, scenes, _ = story
    there = {("number", number[0]): True for number in numbers}
    there.update({("place", place): True for place in places})
    there.update({("figure", figure[0]): True for figure in figures})
    there.update({("scene", scene[0]): True for scene in scenes})
    return there
