"""The interface: each function stands in its file, with its arguments by place or by name."""

import inspect
import unittest
from importlib import import_module

FUNCTIONS = {
    "values": {"is_value": "value", "value_rank": "value"},
    "cards": {
        "card_error": "value", "states": "card", "place_of": "card state", "is_above": "state other",
        "rises": "state other", "room": "card state",
    },
    "codes": {
        "code_error": "value", "label": "code state", "values_of": "code", "states_with": "code value",
    },
    "codetexts": {"code_text": "code", "read_code": "value"},
    "strengths": {
        "strengths": "code", "strength": "code state", "ranks_hold": "code value", "lot_strengths": "code lot",
    },
    "plays": {
        "told_state": "code state value", "told_foe": "code state", "play": "code values",
        "rises_needed": "code state many",
    },
    "groups": {
        "group_error": "value", "group_members": "group", "summed": "group marks counts", "span": "group some",
        "kills": "group character member", "characters": "group some",
    },
}


class Interface(unittest.TestCase):
    def test_functions(self):
        for file, names in FUNCTIONS.items():
            module = import_module("onlyhigher." + file)
            for name, arguments in names.items():
                function = getattr(module, name)
                self.assertTrue(inspect.isfunction(function), name)
                self.assertEqual(function.__module__, "onlyhigher." + file)
                self.assertEqual(function.__name__, name)
                parameters = list(inspect.signature(function).parameters.values())
                self.assertEqual(" ".join(parameter.name for parameter in parameters), arguments)
                for parameter in parameters:
                    self.assertIs(parameter.kind, inspect.Parameter.POSITIONAL_OR_KEYWORD)
                    self.assertIs(parameter.default, inspect.Parameter.empty)


if __name__ == "__main__":
    unittest.main()
