"""The interface: each function stands in its file, with its arguments by place or by name."""

import inspect
import unittest
from importlib import import_module

FUNCTIONS = {
    "values": {"is_value": "value", "value_rank": "value"},
    "cards": {
        "card_error": "value", "states": "card", "place_of": "card state", "is_above": "state other",
        "rises": "state other", "room": "card state",
    },
    "codes": {
        "code_error": "value", "label": "code state", "values_of": "code", "states_with": "code value",
    },
    "codetexts": {"code_text": "code", "read_code": "value"},
    "strengths": {
        "strengths": "code", "strength": "code state", "ranks_hold": "code value", "lot_strengths": "code lot",
    },
    "plays": {
        "told_state": "code state value", "told_foe": "code state", "play": "code values",
        "rises_needed": "code state many",
    },
    "groups": {
        "group_error": "value", "group_members": "group", "summed": "group marks counts", "span": "group some",
        "kills": "group character member", "characters": "group some",
    },
    "sums": {
        "sums_code": "card group marks", "makes": "group marks room", "ways_to": "group marks room member",
        "room_strengths": "card group marks",
    },
    "barring": {"bar": "group marks room member", "bar_holds": "group marks room member value"},
    "compared": {
        "follows": "code other", "never_weaker": "code other", "pairs_hold": "code other value", "strikes": "code other",
        "strikes_hold": "code other value",
    },
    "alike": {"led": "code order names", "alike": "code other"},
    "best": {"best_code": "card many least"},
    "trees": {
        "hopeful": "card many labels", "no_tree": "card many least", "tree_holds": "card many least value",
    },
    "kinds": {
        "kind_error": "code kind", "asked": "code kind value", "kind_strengths": "code kind",
        "kind_ranks_hold": "code kind value", "kind_state": "code kind state value",
    },
    "cuts": {
        "way_error": "code value", "safe_strengths": "code", "safe_ranks_hold": "code value",
        "safe_way": "code state value", "safe_orders": "code",
    },
    "slips": {
        "crowded": "code slips", "read_as": "code slips state", "turn_strengths": "code slips",
        "slip_ranks_hold": "code slips value", "all_strengths": "code slips", "stuck_strengths": "code cells",
    },
    "shares": {
        "shares_error": "code value", "means": "code shares", "means_hold": "code shares value",
        "mean_state": "code shares state value", "plan_means": "code shares", "spread": "code shares",
    },
    "looks": {
        "look_error": "code value", "depth": "tree", "least_looks": "code", "look_tree": "code", "look_foe": "code most",
        "look_foe_holds": "code most value",
    },
    "together": {
        "beside": "code other", "behind": "code other", "inside": "code outer", "lifted": "code card",
        "first_strength": "code",
    },
    "shelves": {
        "edits_left": "code states spares", "record_of": "code names name value",
        "shelf_behind": "code names spares records",
    },
    "tapes": {
        "tape_error": "value", "blank_tape": "wide many", "whole_records": "tape", "writing": "tape record",
        "striking": "tape", "raised": "tape places",
    },
    "ahead": {"row_states": "code values", "failing_row": "code", "ahead_strength": "code"},
    "machines": {
        "machine_error": "code value", "machine_strengths": "code machine", "machine_ranks_hold": "code machine value",
        "machine_state": "code machine room state value",
    },
}

# The classes by their files, with the arguments of each of their methods behind self.
CLASSES = {
    ("shelves", "Shelf"): {
        "__init__": "code names spares", "states": "", "left": "", "spare": "", "read": "name", "find": "value",
        "edit": "name value", "wipe": "", "copy": "",
    },
    ("benches", "Bench"): {
        "__init__": "code", "__len__": "", "__getitem__": None, "__iter__": "", "__eq__": None, "strength": "",
        "relabel": "state value", "rename": "names", "reorder": "order", "lift": "card", "batch": "edits", "undo": "",
        "redo": "", "at": "version", "copy": "", "attempt": "work",
    },
    ("shells", "Shell"): {"say": "line"},
}
PROPERTIES = {("benches", "Bench"): ("code", "version")}


class Interface(unittest.TestCase):
    def test_functions(self):
        for file, names in FUNCTIONS.items():
            module = import_module("onlyhigher." + file)
            for name, arguments in names.items():
                function = getattr(module, name)
                self.assertTrue(inspect.isfunction(function), name)
                self.assertEqual(function.__module__, "onlyhigher." + file)
                self.assertEqual(function.__name__, name)
                self.check_parameters(list(inspect.signature(function).parameters.values()), arguments)

    def check_parameters(self, parameters, arguments):
        self.assertEqual(" ".join(parameter.name for parameter in parameters), arguments)
        for parameter in parameters:
            self.assertIs(parameter.kind, inspect.Parameter.POSITIONAL_OR_KEYWORD)
            self.assertIs(parameter.default, inspect.Parameter.empty)

    def test_classes(self):
        for (file, word), names in CLASSES.items():
            kind = getattr(import_module("onlyhigher." + file), word)
            self.assertTrue(inspect.isclass(kind))
            self.assertEqual((kind.__module__, kind.__name__), ("onlyhigher." + file, word))
            for name, arguments in names.items():
                # Each method stands in the class itself.
                method = vars(kind)[name]
                self.assertTrue(inspect.isfunction(method), name)
                if arguments is not None:
                    self.check_parameters(list(inspect.signature(method).parameters.values())[1:], arguments)
            for name in PROPERTIES.get((file, word), ()):
                self.assertIsInstance(vars(kind)[name], property)
                self.assertIsNone(vars(kind)[name].fset)


if __name__ == "__main__":
    unittest.main()
