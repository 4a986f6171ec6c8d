"""The interface: names, arguments, and in which file each function is defined."""

import importlib
import inspect
import unittest

from forktales.houses import House

FUNCTIONS = {
    "talekinds": {
        "is_word": "thing", "is_sum": "thing", "is_test": "thing", "is_piece": "thing", "is_deed": "thing", "is_next": "thing",
    },
    "scenekinds": {"is_choice": "thing", "is_scene": "thing", "is_story": "thing"},
    "storytexts": {"sum_words": "amount", "test_words": "test", "story_text": "story"},
    "storyreadings": {"story_read": "text"},
    "namings": {"namings_of": "scene"},
    "weaving": {"asked_scenes": "story", "woven_at": "story name", "choices_at": "story name"},
    "looseness": {"loose_ends": "story"},
    "standtexts": {"stand_text": "stand", "stand_read": "text"},
    "tables": {"is_table": "thing", "scene_call": "table name", "choice_call": "table choice", "table_turned": "table"},
    "callings": {"story_called": "story table", "stand_called": "story stand table"},
    "skeletons": {"skeleton_of": "story"},
    "houselogs": {"is_log": "thing"},
    "savedtexts": {"saved_text": "log"},
    "savedreadings": {"read_saved": "text"},
    "memory": {"first_stand": "story", "place_of": "story stand figure"},
    "standchecker": {"lets_stand": "story thing", "is_right_stand": "story thing"},
    "sums": {"worth_of": "story stand amount"},
    "asking": {"is_met": "story stand test"},
    "deeds": {"deed_done": "story stand deed"},
    "barring": {"barred": "story stand choice * lifted", "made": "story stand choice * lifted"},
    "offering": {"offers": "story stand * lifted"},
    "shownlines": {"shown": "story stand * reader"},
    "rowmaking": {"story_rows": "story"},
    "rowruns": {
        "rows_shown": "rows stand * reader", "rows_offers": "rows stand * lifted", "rows_made": "rows stand choice * lifted",
        "rows_run": "rows row * begin lifted",
    },
    "living": {"things_of": "story", "live_things": "story scene"},
    "alikeness": {"lean_stand": "story stand", "are_alike": "story one other"},
    "leading": {"row_led": "one other row * table"},
    "leadpapers": {"lead_paper": "one other row * table"},
    "leadchecker": {"lets_lead": "one other row thing * table"},
    "pairing": {"alike_or_parted": "one other * table most"},
    "pairjudge": {"lets_pairing": "one other thing * table"},
    "treeruns": {"run": "story row * begin lifted"},
    "stepchecker": {"lets_made": "story stand choice thing"},
    "allstands": {"all_stands": "story * most"},
    "classes": {"lean_stands": "story * most", "lean_step": "story stand choice * lifted"},
    "classchecker": {"lets_classes": "story thing"},
    "heights": {"endings_of": "story", "least_row": "story ending * most", "height_paper": "story ending * most"},
    "heightchecker": {"lets_height": "story ending thing"},
    "wholeness": {"is_whole": "thing", "lets_whole": "thing"},
    "looking": {"looks_of": "story", "looks_kept": "one other * looks"},
    "linesshown": {"lines_shown": "story * most"},
    "locks": {"lock_paper": "story ending * most"},
    "lockchecker": {"lets_lock": "story ending thing"},
    "traps": {"stuck_stands": "story * most", "trap_stands": "story * most", "trap_paper": "story stand * most"},
    "trapchecker": {"lets_trap": "story stand thing"},
    "replaying": {"replayed": "log"},
    "keptruns": {"do_agree": "one stand other second", "kept_stands": "one other row", "firm_stands": "one other row"},
}

# What an argument that may be left out is then.
LEFT_OUT = {"looks": inspect.Parameter.empty, "lifted": (), "reader": None, "begin": None, "table": ((), ()), "most": 400}
PAIRED = ("alike_or_parted", "lock_paper")


# The methods of House.
METHODS = {
    "__init__": "self story * readers way", "come": "self reader", "go": "self reader", "pick": "self reader choice", "vote": "self reader choice",
    "edit": "self story table", "back": "self times", "story_now": "self", "row_now": "self", "stand_now": "self", "readers_now": "self", "way_now": "self",
    "turn_now": "self", "votes_now": "self", "makers_now": "self", "offers_now": "self", "sight_of": "self reader", "has": "self thing", "__len__": "self",
    "log": "self", "__str__": "self", "__eq__": "self other", "__ne__": "self other", "undo": "self", "do_all": "self deeds * keep", "walks": "self",
}
HOUSE_LEFT_OUT = {"readers": (), "way": "turns", "table": ((), ()), "keep": False}


class Interface(unittest.TestCase):
    def test_house(self):
        self.assertEqual(House.__module__, "forktales.houses")
        for name, arguments in METHODS.items():
            with self.subTest(name):
                method = vars(House)[name]
                by_place, _, alone = arguments.partition(" * ")
                parameters = inspect.signature(method).parameters
                self.assertEqual(list(parameters), by_place.split(" ") + alone.split())
                for parameter in parameters.values():
                    self.assertEqual(parameter.default, HOUSE_LEFT_OUT.get(parameter.name, inspect.Parameter.empty))
                    by_name = inspect.Parameter.KEYWORD_ONLY if parameter.name in alone.split() else inspect.Parameter.POSITIONAL_OR_KEYWORD
                    self.assertEqual(parameter.kind, by_name)

    def test_each_function(self):
        for module, functions in FUNCTIONS.items():
            file = importlib.import_module("forktales." + module)
            for name, arguments in functions.items():
                with self.subTest(f"{module}.{name}"):
                    function = getattr(file, name)
                    self.assertTrue(inspect.isfunction(function))
                    self.assertEqual(function.__module__, "forktales." + module)
                    by_place, _, alone = arguments.partition(" * ")
                    self.assertEqual(list(inspect.signature(function).parameters), by_place.split(" ") + alone.split())
                    for parameter in inspect.signature(function).parameters.values():
                        if parameter.name in by_place.split(" "):
                            self.assertEqual(parameter.kind, inspect.Parameter.POSITIONAL_OR_KEYWORD)
                            self.assertIs(parameter.default, inspect.Parameter.empty)
                        else:
                            self.assertEqual(parameter.kind, inspect.Parameter.KEYWORD_ONLY)
                            many = parameter.name == "most" and name in PAIRED
                            self.assertEqual(parameter.default, 4000 if many else LEFT_OUT[parameter.name])


if __name__ == "__main__":
    unittest.main()
