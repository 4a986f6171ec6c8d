"""Many stories, stands and logs made by a row of numbers: what has to hold of each."""

import unittest

from forktales.callings import stand_called, story_called
from forktales.errors import NoChoice, NoScene
from forktales.houselogs import is_log
from forktales.looseness import loose_ends
from forktales.namings import namings_of
from forktales.savedreadings import read_saved
from forktales.savedtexts import saved_text
from forktales.scenekinds import is_story
from forktales.skeletons import skeleton_of
from forktales.standtexts import stand_read, stand_text
from forktales.storyreadings import story_read
from forktales.storytexts import story_text
from forktales.tables import choice_call, is_table, scene_call, table_turned
from forktales.weaving import asked_scenes, choices_at, woven_at
from tests import plainkinds, slowreading
from tests.helpers import same
from tests.storymaker import Maker

SEEDS = range(150)


def named(part):
    """The NAMINGS of a SUM, a TEST, a PIECE, a DEED, a NEXT, or of a tuple of such, straight from the document."""
    if not part or not isinstance(part[0], str):
        return [naming for inner in part for naming in named(inner)]
    word, *rest = part
    sorts = {
        "of": ["number"], "seen": ["scene"], "at": ["figure", "place"], "with": ["figure", "figure"], "place": ["figure"],
        "draw": ["number"], "go": ["figure", "place"], "put": ["figure", "place"], "join": ["figure", "figure"], "leave": ["figure"],
        "to": ["scene"], "into": ["scene", "scene"],
    }
    if word in sorts:
        return list(zip(sorts[word], rest))
    if word == "set":
        return [("number", rest[0])] + named(rest[1])
    if word == "only":
        return named(rest[1])
    return [naming for inner in rest if isinstance(inner, tuple) for naming in named(inner)]


def scene_named(scene):
    namings = named(scene[1])
    for _, label, test, _, deeds, leads in scene[2]:
        namings += named(label) + named(test) + named(deeds) + named(leads)
    return tuple(namings + [("scene", name) for name in scene[3]])


def woven_from(scenes, name, come):
    """Adds to come what is woven at a scene, straight from the document."""
    for other in scenes[name][3]:
        if other not in come:
            come.append(other)
            woven_from(scenes, other, come)
    return come


class Made(unittest.TestCase):
    def test_stories_there_and_back(self):
        for seed in SEEDS:
            one = Maker(seed).story()
            self.assertTrue(is_story(one) and plainkinds.some_story(one))
            text = story_text(one)
            self.assertTrue(same(story_read(text), one), text)
            self.assertTrue(same(slowreading.read_story(text), ("read", one)), text)

    def test_stands_there_and_back(self):
        for seed in SEEDS:
            stand = Maker(seed).stand()
            self.assertTrue(same(stand_read(stand_text(stand)), stand), stand)

    def test_logs_there_and_back(self):
        for seed in range(60):
            log = Maker(seed).log()
            self.assertTrue(is_log(log) and plainkinds.some_log(log))
            text = saved_text(log)
            self.assertTrue(same(read_saved(text), log), text)
            self.assertTrue(same(slowreading.read_log(text), ("read", log)), text)

    def test_namings_and_what_is_asked(self):
        for seed in SEEDS:
            one = Maker(seed).story()
            for scene in one[5]:
                self.assertEqual(namings_of(scene), scene_named(scene))
            text = story_text(one).split("\n")
            words = [line.split(" ") for line in text if line.split(" ")[0] != "text"]
            asked = {row[k + 1] for row in words for k, word in enumerate(row) if word == "seen"}
            self.assertEqual(asked_scenes(one), tuple(sorted(asked)))

    def test_weaving_and_loose_ends(self):
        for seed in SEEDS:
            one = Maker(seed).story()
            scenes = {scene[0]: scene for scene in one[5]}
            for name in scenes:
                woven = woven_from(scenes, name, [name])
                self.assertEqual(woven_at(one, name), tuple(woven[1:]))
                self.assertEqual(choices_at(one, name), tuple((other, choice[0]) for other in woven for choice in scenes[other][2]))
            come = {one[6]}
            for _ in scenes:
                leads = {name for at in come for choice in scenes[at][2] for name in choice[5][1:]}
                come |= leads | {name for at in come for name in scenes[at][3]}
            self.assertEqual(loose_ends(one), tuple(name for name in scenes if name not in come))

    def test_skeletons(self):
        for seed in SEEDS:
            one = Maker(seed).story()
            bare = skeleton_of(one)
            self.assertTrue(is_story(bare))
            kept = [line for line in story_text(one).split("\n")]
            self.assertEqual(loose_ends(bare), loose_ends(one))
            self.assertTrue(set(story_text(bare).split("\n")) <= set(kept))
            self.assertTrue(same(skeleton_of(bare), bare))

    def test_tables(self):
        for seed in SEEDS:
            table = Maker(seed).table()
            self.assertTrue(is_table(table) and plainkinds.some_table(table))
            self.assertTrue(same(table_turned(table_turned(table)), table))

    def test_stories_called(self):
        called_ones = 0
        for seed in range(400):
            maker = Maker(seed)
            one, table = maker.story(), maker.table()
            scenes = [scene[0] for scene in one[5] if scene_call(table, scene[0]) is None]
            choices = []
            for scene in one[5]:
                for choice in scene[2]:
                    call = choice_call(table, (scene[0], choice[0]))
                    if call is None or call[0] != scene_call(table, scene[0]):
                        choices.append((scene[0], choice[0]))
            stand = (one[6], (), (), (), (), (), 0)
            try:
                called = story_called(one, table)
                stand = stand_called(one, stand, table)
            except NoScene as refused:
                self.assertEqual(refused.name, scenes[0])
            except NoChoice as refused:
                self.assertEqual((scenes, refused.choice, refused.why), ([], choices[0], "table"))
            else:
                called_ones += 1
                self.assertEqual((scenes, choices), ([], []))
                self.assertTrue(is_story(called))
                self.assertEqual(stand[0], called[6])
                self.assertTrue(same(story_called(called, table_turned(table)), one))
                self.assertEqual(asked_scenes(called), tuple(sorted(scene_call(table, name) for name in asked_scenes(one))))
                for name in [scene[0] for scene in one[5]]:
                    there = choices_at(called, scene_call(table, name))
                    self.assertEqual(there, tuple(choice_call(table, choice) for choice in choices_at(one, name)))
        self.assertGreater(called_ones, 20)


if __name__ == "__main__":
    unittest.main()
