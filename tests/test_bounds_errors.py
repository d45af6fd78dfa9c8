"""The interface: all bounds, and all errors with what they keep."""

import unittest

from onlyhigher import bounds, errors
from samples import ODD_VALUES

BOUNDS = {
    "MAX_NUMBER": 999, "MAX_WORD": 8, "MAX_ITEMS": 4, "MAX_CELLS": 6, "MAX_TOP": 7, "MAX_STATES": 512,
    "MAX_VALUES": 64, "MAX_MODULI": 3, "MAX_ORDER": 64, "MAX_BEST": 9, "MAX_MANY": 4, "MAX_SLIPS": 3,
    "MAX_WEIGHT": 1000, "MAX_NAMES": 6, "MAX_SPARES": 3, "MAX_SHELF": 4096, "MAX_WIDE": 12, "MAX_TAPE": 400,
    "MAX_EDITS": 40, "BATCH": 12, "MAX_AHEAD": 64, "MAX_ROOMS": 6,
}

ERRORS = {
    "BadCard": "error", "BadCode": "error", "BadText": None, "NoState": "given", "NoValue": "given",
    "NoKind": "error", "Unfit": None, "TooMany": "limit", "HasCode": "found", "Crowded": "pair",
    "NoName": "given", "Spent": None, "BadTape": "place", "BadMachine": "error", "BadBatch": None,
    "Rejected": "index", "TooManyEdits": None, "NothingToUndo": None, "NothingToRedo": None, "NoVersion": "given",
}


class Bounds(unittest.TestCase):
    def test_all_bounds(self):
        found = {name: value for name, value in vars(bounds).items() if name.isupper()}
        self.assertEqual(repr(sorted(found.items())), repr(sorted(BOUNDS.items())))


class Errors(unittest.TestCase):
    def test_higher_error_is_a_value_error(self):
        self.assertEqual(errors.HigherError.__bases__, (ValueError,))

    def test_all_errors_directly_under_higher_error(self):
        self.assertEqual(len(ERRORS), 20)
        found = [name for name, kind in vars(errors).items() if isinstance(kind, type)]
        self.assertEqual(sorted(found), sorted(list(ERRORS) + ["HigherError"]))
        for name in ERRORS:
            kind = getattr(errors, name)
            self.assertEqual(kind.__bases__, (errors.HigherError,))
            self.assertEqual((kind.__name__, kind.__module__), (name, "onlyhigher.errors"))

    def test_errors_without_arguments(self):
        for name, kept in ERRORS.items():
            if kept is None:
                error = getattr(errors, name)()
                self.assertEqual(vars(error), {})
                with self.assertRaises(getattr(errors, name)):
                    raise error

    def test_errors_keep_what_they_are_passed(self):
        for name, kept in ERRORS.items():
            if kept is None:
                continue
            kind = getattr(errors, name)
            for value in ODD_VALUES:
                by_place, by_name = kind(value), kind(**{kept: value})
                self.assertIs(getattr(by_place, kept), value)
                self.assertIs(getattr(by_name, kept), value)
                self.assertEqual(list(vars(by_place)), [kept])

    def test_wrong_arguments(self):
        for name, kept in ERRORS.items():
            kind = getattr(errors, name)
            with self.assertRaises(TypeError):
                kind(other=1)
            if kept is not None:
                with self.assertRaises(TypeError):
                    kind()
                with self.assertRaises(TypeError):
                    kind(1, 2)


if __name__ == "__main__":
    unittest.main()
