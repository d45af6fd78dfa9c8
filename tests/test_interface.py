"""The interface: each function stands in its file, with its arguments by place or by name."""

import inspect
import unittest
from importlib import import_module

FUNCTIONS = {
    "values": {"is_value": "value", "value_rank": "value"},
    "cards": {
        "card_error": "value", "states": "card", "place_of": "card state", "is_above": "state other",
        "rises": "state other", "room": "card state",
    },
    "codes": {
        "code_error": "value", "label": "code state", "values_of": "code", "states_with": "code value",
    },
    "codetexts": {"code_text": "code", "read_code": "value"},
    "strengths": {
        "strengths": "code", "strength": "code state", "ranks_hold": "code value", "lot_strengths": "code lot",
    },
    "plays": {
        "told_state": "code state value", "told_foe": "code state", "play": "code values",
        "rises_needed": "code state many",
    },
    "groups": {
        "group_error": "value", "group_members": "group", "summed": "group marks counts", "span": "group some",
        "kills": "group character member", "characters": "group some",
    },
    "sums": {
        "sums_code": "card group marks", "makes": "group marks room", "ways_to": "group marks room member",
        "room_strengths": "card group marks",
    },
    "barring": {"bar": "group marks room member", "bar_holds": "group marks room member value"},
    "compared": {
        "follows": "code other", "never_weaker": "code other", "pairs_hold": "code other value", "strikes": "code other",
        "strikes_hold": "code other value",
    },
    "alike": {"led": "code order names", "alike": "code other"},
    "best": {"best_code": "card many least"},
    "trees": {
        "hopeful": "card many labels", "no_tree": "card many least", "tree_holds": "card many least value",
    },
    "kinds": {
        "kind_error": "code kind", "asked": "code kind value", "kind_strengths": "code kind",
        "kind_ranks_hold": "code kind value", "kind_state": "code kind state value",
    },
    "cuts": {
        "way_error": "code value", "safe_strengths": "code", "safe_ranks_hold": "code value",
        "safe_way": "code state value", "safe_orders": "code",
    },
    "slips": {
        "crowded": "code slips", "read_as": "code slips state", "turn_strengths": "code slips",
        "slip_ranks_hold": "code slips value", "all_strengths": "code slips", "stuck_strengths": "code cells",
    },
}


class Interface(unittest.TestCase):
    def test_functions(self):
        for file, names in FUNCTIONS.items():
            module = import_module("onlyhigher." + file)
            for name, arguments in names.items():
                function = getattr(module, name)
                self.assertTrue(inspect.isfunction(function), name)
                self.assertEqual(function.__module__, "onlyhigher." + file)
                self.assertEqual(function.__name__, name)
                parameters = list(inspect.signature(function).parameters.values())
                self.assertEqual(" ".join(parameter.name for parameter in parameters), arguments)
                for parameter in parameters:
                    self.assertIs(parameter.kind, inspect.Parameter.POSITIONAL_OR_KEYWORD)
                    self.assertIs(parameter.default, inspect.Parameter.empty)


if __name__ == "__main__":
    unittest.main()
