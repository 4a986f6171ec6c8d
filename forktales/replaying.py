"""LOGS REPLAYED."""

from forktales.houses import House


def replayed(log):
    """A new HOUSE at which all deeds of a LOG were done; the first refusal comes."""
    _, story, readers, way = log[0]
    house = House(story, readers=readers, way=way)
    house.do_all(log[1:])
    return house
