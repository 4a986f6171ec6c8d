"""STORIES and STANDS CALLED otherwise, by a TABLE."""

from forktales.errors import NoChoice, NoScene
from forktales.tables import choice_call, scene_call
from forktales.trees import built, marks_of


def story_called(story, table):
    """The STORY with the calls of scenes and choices; refused where one has none that fits."""
    calls = _scene_calls(story, table)
    numbers, places, doors, figures, digits, scenes, begin = story
    called = [_scene_called(scene, table, calls) for scene in scenes]
    return (numbers, places, doors, figures, digits, tuple(sorted(called)), calls[begin])


def stand_called(story, stand, table):
    """The STAND of a STORY with the calls of scenes and choices; refused as the STORY is."""
    calls = _scene_calls(story, table)
    scene, stack, numbers, wheres, seen, made, digit = stand
    stack_called = tuple([calls[name] for name in stack])
    seen_called = tuple(sorted([(calls[name], many) for name, many in seen]))
    made_called = tuple(sorted([choice_call(table, choice) for choice in made]))
    return (calls[scene], stack_called, numbers, wheres, seen_called, made_called, digit)


def _scene_calls(story, table):
    """A dict of each SCENE's call by its NAME, where all, and all CHOICES, can be called."""
    calls = {}
    for scene in story[5]:
        call = scene_call(table, scene[0])
        if call is None:
            raise NoScene(scene[0])
        calls[scene[0]] = call
    for scene in story[5]:
        for choice in scene[2]:
            pair = (scene[0], choice[0])
            pair_call = choice_call(table, pair)
            if pair_call is None or pair_call[0] != calls[scene[0]]:
                raise NoChoice(pair, "table")
    return calls


def _scene_called(scene, table, calls):
    """A SCENE with the calls of all that is named in it, and of itself and its CHOICES."""
    marks = [_mark_called(mark, calls) for mark in marks_of("SCENE", scene)]
    _, pieces, choices, woven, ending = built(marks)[0]
    own = []
    for choice in choices:
        call = choice_call(table, (scene[0], choice[0]))
        own.append((call[1], *choice[1:]))
    return (calls[scene[0]], pieces, tuple(own), woven, ending)


def _mark_called(mark, calls):
    sort, head, rest = mark
    return (sort, head, calls[rest]) if sort in ("scene", "asked") else mark
