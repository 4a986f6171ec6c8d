"""The interface: names, arguments, and in which file each function is defined."""

import importlib
import inspect
import unittest

FUNCTIONS = {
    "talekinds": {
        "is_word": "thing", "is_sum": "thing", "is_test": "thing", "is_piece": "thing", "is_deed": "thing", "is_next": "thing",
    },
    "scenekinds": {"is_choice": "thing", "is_scene": "thing", "is_story": "thing"},
    "storytexts": {"sum_words": "amount", "test_words": "test", "story_text": "story"},
    "storyreadings": {"story_read": "text"},
    "namings": {"namings_of": "scene"},
    "weaving": {"asked_scenes": "story", "woven_at": "story name", "choices_at": "story name"},
    "looseness": {"loose_ends": "story"},
    "standtexts": {"stand_text": "stand", "stand_read": "text"},
    "tables": {"is_table": "thing", "scene_call": "table name", "choice_call": "table choice", "table_turned": "table"},
    "callings": {"story_called": "story table", "stand_called": "story stand table"},
    "skeletons": {"skeleton_of": "story"},
    "houselogs": {"is_log": "thing"},
    "savedtexts": {"saved_text": "log"},
    "savedreadings": {"read_saved": "text"},
    "memory": {"first_stand": "story", "place_of": "story stand figure"},
    "standchecker": {"lets_stand": "story thing", "is_right_stand": "story thing"},
    "sums": {"worth_of": "story stand amount"},
    "asking": {"is_met": "story stand test"},
    "deeds": {"deed_done": "story stand deed"},
    "barring": {"barred": "story stand choice * lifted", "made": "story stand choice * lifted"},
    "offering": {"offers": "story stand * lifted"},
    "shownlines": {"shown": "story stand * reader"},
    "rowmaking": {"story_rows": "story"},
    "rowruns": {
        "rows_shown": "rows stand * reader", "rows_offers": "rows stand * lifted", "rows_made": "rows stand choice * lifted",
        "rows_run": "rows row * begin lifted",
    },
    "living": {"things_of": "story", "live_things": "story scene"},
    "alikeness": {"lean_stand": "story stand", "are_alike": "story one other"},
    "leading": {"row_led": "one other row * table"},
    "leadpapers": {"lead_paper": "one other row * table"},
    "leadchecker": {"lets_lead": "one other row thing * table"},
    "pairing": {"alike_or_parted": "one other * table most"},
    "pairjudge": {"lets_pairing": "one other thing * table"},
    "treeruns": {"run": "story row * begin lifted"},
    "stepchecker": {"lets_made": "story stand choice thing"},
    "allstands": {"all_stands": "story * most"},
    "classes": {"lean_stands": "story * most", "lean_step": "story stand choice * lifted"},
    "classchecker": {"lets_classes": "story thing"},
    "heights": {"endings_of": "story", "least_row": "story ending * most", "height_paper": "story ending * most"},
    "heightchecker": {"lets_height": "story ending thing"},
    "keptruns": {"do_agree": "one stand other second", "kept_stands": "one other row", "firm_stands": "one other row"},
}

# What an argument that may be left out is then.
LEFT_OUT = {"lifted": (), "reader": None, "begin": None, "table": ((), ()), "most": 400}
PAIRED = ("alike_or_parted", "lock_paper")


class Interface(unittest.TestCase):
    def test_each_function(self):
        for module, functions in FUNCTIONS.items():
            file = importlib.import_module("forktales." + module)
            for name, arguments in functions.items():
                with self.subTest(f"{module}.{name}"):
                    function = getattr(file, name)
                    self.assertTrue(inspect.isfunction(function))
                    self.assertEqual(function.__module__, "forktales." + module)
                    by_place, _, alone = arguments.partition(" * ")
                    self.assertEqual(list(inspect.signature(function).parameters), by_place.split(" ") + alone.split())
                    for parameter in inspect.signature(function).parameters.values():
                        if parameter.name in by_place.split(" "):
                            self.assertEqual(parameter.kind, inspect.Parameter.POSITIONAL_OR_KEYWORD)
                            self.assertIs(parameter.default, inspect.Parameter.empty)
                        else:
                            self.assertEqual(parameter.kind, inspect.Parameter.KEYWORD_ONLY)
                            many = parameter.name == "most" and name in PAIRED
                            self.assertEqual(parameter.default, 4000 if many else LEFT_OUT[parameter.name])


if __name__ == "__main__":
    unittest.main()
