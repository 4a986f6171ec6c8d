"""The interface: names, arguments, and in which file each function is defined."""

import importlib
import inspect
import unittest

FUNCTIONS = {
    "talekinds": {
        "is_word": "thing", "is_sum": "thing", "is_test": "thing", "is_piece": "thing", "is_deed": "thing", "is_next": "thing",
    },
    "scenekinds": {"is_choice": "thing", "is_scene": "thing", "is_story": "thing"},
    "storytexts": {"sum_words": "amount", "test_words": "test", "story_text": "story"},
    "storyreadings": {"story_read": "text"},
    "namings": {"namings_of": "scene"},
    "weaving": {"asked_scenes": "story", "woven_at": "story name", "choices_at": "story name"},
    "looseness": {"loose_ends": "story"},
    "standtexts": {"stand_text": "stand", "stand_read": "text"},
    "tables": {"is_table": "thing", "scene_call": "table name", "choice_call": "table choice", "table_turned": "table"},
    "callings": {"story_called": "story table", "stand_called": "story stand table"},
    "skeletons": {"skeleton_of": "story"},
    "houselogs": {"is_log": "thing"},
    "savedtexts": {"saved_text": "log"},
    "savedreadings": {"read_saved": "text"},
}


class Interface(unittest.TestCase):
    def test_each_function(self):
        for module, functions in FUNCTIONS.items():
            file = importlib.import_module("forktales." + module)
            for name, arguments in functions.items():
                with self.subTest(f"{module}.{name}"):
                    function = getattr(file, name)
                    self.assertTrue(inspect.isfunction(function))
                    self.assertEqual(function.__module__, "forktales." + module)
                    self.assertEqual(list(inspect.signature(function).parameters), arguments.split(" "))
                    for parameter in inspect.signature(function).parameters.values():
                        self.assertEqual(parameter.kind, inspect.Parameter.POSITIONAL_OR_KEYWORD)
                        self.assertIs(parameter.default, inspect.Parameter.empty)


if __name__ == "__main__":
    unittest.main()
