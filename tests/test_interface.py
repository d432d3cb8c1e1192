"""The interface: names, arguments, and the files in which they are defined."""

import importlib
import inspect
import unittest

INTERFACE = {
    "rows": {
        "made_row": "n, thing", "is_row": "n, thing", "made_rows": "n, thing", "level": "n", "rows_of": "n",
        "turned": "row", "sums": "one, two",
    },
    "lots": {
        "made_lot": "thing", "is_lot": "thing", "has": "lot, row", "joined": "one, two", "both": "one, two",
        "without": "one, two", "renamed": "lot, order", "mirrored": "lot, signs", "turned_lot": "lot",
    },
    "tables": {"made_table": "thing", "is_table": "thing"},
    "ladders": {
        "made_ladder": "n, thing", "is_ladder": "n, thing", "look": "n, ladder, row", "heeds": "lot, ladder",
        "climbed": "lot, ladder", "bars": "lot, ladder, row",
    },
    "walking": {"walk_by": "lot, row, order", "walk": "lot, row", "can_lead": "lot, row"},
    "leading": {
        "leads": "n, rows, row", "few": "lot, row", "fewest": "lot, row", "row_of": "new, old",
        "way_of": "n, rows, row", "lead_way": "lot, row",
    },
    "rounds": {"goes_round": "table", "round_of": "table", "round_size": "table", "ladder_of": "table"},
    "counts": {
        "count": "table", "nth": "table, k", "number": "table, ladder", "heads": "lot", "leads_all": "lot",
        "full_count": "table",
    },
    "strikes": {
        "calm_price": "table, prices", "calm_strike": "table, prices", "bar_price": "lot, prices, row",
        "bar_strike": "lot, prices, row",
    },
    "ledlots": {
        "led": "lot", "alike": "one, two", "parting": "one, two", "break_of": "lot", "by_turns": "one, two",
        "turns_way": "one, two, row",
    },
    "orders": {
        "is_order": "lot", "against": "lot", "never_apart": "lot", "let_by": "n, ladders", "longest": "lot",
        "one_ladder": "lot",
    },
    "seen": {
        "made_seen": "thing", "could": "seen", "verdict": "seen, row", "decided_many": "seen",
        "decided": "seen, row", "next_ask": "seen",
    },
    "worlds": {
        "made_motion": "n, thing", "is_motion": "n, thing", "made_world": "thing", "is_world": "thing",
        "beats": "table, world, new, old", "reach": "table, world, start", "shortest": "table, world, one, two",
        "ends": "table, world", "round_in": "table, world",
    },
    "bridges": {"bridge_of": "n, rows, one, two", "bridge": "table, one, two"},
    "minutes": {"minutes_text": "sitting", "opened": "table, text"},
    "kernel": {
        "way_right": "lot, row, way", "round_right": "table, way", "bridge_right": "table, one, two, way",
        "three_right": "lot, way", "bars_right": "lot, ladder, row", "climbed_right": "table, ladder",
        "strike_right": "table, rows, ladder", "round_in_right": "table, world, numbers",
    },
    "ruletexts": {
        "read_council": "text", "true_at": "council, row", "table_of": "council", "print_council": "council",
    },
    "texts": {
        "print_row": "n, row", "read_row": "n, text", "print_lot": "lot", "read_lot": "n, text",
        "made_names": "thing", "print_ladder": "names, ladder", "read_ladder": "names, text",
        "print_motion": "n, motion", "read_motion": "n, text",
    },
}

# Of each class the file, and the arguments of each of its methods, those with which it is made ahead.
CLASSES = {
    "Sitting": ("sittings", {
        "__init__": "table, motion", "put": "motion", "standing": "", "first": "", "minutes": "", "back": "",
        "again": "", "plan": "aim", "step": "", "scale": "",
    }),
    "Kept": ("kept", {
        "__init__": "n", "add": "row", "strike": "row", "undo": "", "redo": "", "table": "", "calm": "", "can": "row",
        "paper": "",
    }),
    "Session": ("session", {"__init__": "text, motion", "row": "text"}),
}


class Interface(unittest.TestCase):

    def test_names_arguments_and_files(self):
        for file, functions in INTERFACE.items():
            module = importlib.import_module("roundorlist." + file)
            for name, arguments in functions.items():
                function = getattr(module, name)
                self.assertTrue(inspect.isfunction(function), name)
                self.assertEqual(function.__module__, "roundorlist." + file, name)
                self.assertEqual(", ".join(inspect.signature(function).parameters), arguments, name)

    def test_all_arguments_must_be_given_and_may_be_named(self):
        for file, functions in INTERFACE.items():
            module = importlib.import_module("roundorlist." + file)
            for name in functions:
                for parameter in inspect.signature(getattr(module, name)).parameters.values():
                    self.assertIs(parameter.kind, inspect.Parameter.POSITIONAL_OR_KEYWORD, name)
                    self.assertIs(parameter.default, inspect.Parameter.empty, name)

    def test_classes_their_methods_and_files(self):
        for name, (file, methods) in CLASSES.items():
            found = getattr(importlib.import_module("roundorlist." + file), name)
            self.assertTrue(inspect.isclass(found), name)
            self.assertEqual(found.__module__, "roundorlist." + file, name)
            for method, arguments in methods.items():
                self.assertTrue(inspect.isfunction(vars(found)[method]), method)
                parameters = list(inspect.signature(vars(found)[method]).parameters.values())[1:]
                self.assertEqual(", ".join(parameter.name for parameter in parameters), arguments, method)
                for parameter in parameters:
                    self.assertIs(parameter.kind, inspect.Parameter.POSITIONAL_OR_KEYWORD, method)
                    self.assertIs(parameter.default, inspect.Parameter.empty, method)


if __name__ == "__main__":
    unittest.main()
