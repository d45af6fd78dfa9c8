"""The interface: each function stands in its file, with its arguments by place or by name."""

import inspect
import unittest
from importlib import import_module

FUNCTIONS = {
    "values": {"is_value": "value", "value_rank": "value"},
    "cards": {
        "card_error": "value", "states": "card", "place_of": "card state", "is_above": "state other",
        "rises": "state other", "room": "card state",
    },
}


class Interface(unittest.TestCase):
    def test_functions(self):
        for file, names in FUNCTIONS.items():
            module = import_module("onlyhigher." + file)
            for name, arguments in names.items():
                function = getattr(module, name)
                self.assertTrue(inspect.isfunction(function), name)
                self.assertEqual(function.__module__, "onlyhigher." + file)
                self.assertEqual(function.__name__, name)
                parameters = list(inspect.signature(function).parameters.values())
                self.assertEqual(" ".join(parameter.name for parameter in parameters), arguments)
                for parameter in parameters:
                    self.assertIs(parameter.kind, inspect.Parameter.POSITIONAL_OR_KEYWORD)
                    self.assertIs(parameter.default, inspect.Parameter.empty)


if __name__ == "__main__":
    unittest.main()
