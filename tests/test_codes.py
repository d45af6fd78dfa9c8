"""[A9], [A10]: codes."""

import unittest

import reference
from onlyhigher.cards import states
from onlyhigher.codes import code_error, label, states_with, values_of
from onlyhigher.errors import NoState
from onlyhigher.values import value_rank
from samples import ODD_VALUES, check_error, check_given, check_kept, same

MIXED = ((1, 2), ("up", None, (3, "ab"), "up", 7, (3,)))
CARD = (7, 7)


def with_values(many):
    """A code with so many values, some of them at several states."""
    return CARD, tuple(at % many for at in range(64))


class CodeError(unittest.TestCase):
    def test_codes(self):
        for code in list(reference.small_codes()) + reference.GREAT + [MIXED]:
            self.assertIsNone(code_error(code))

    def test_form(self):
        for value in ODD_VALUES + [((1,),), ((1,), (0, 1), ()), [(1,), (0, 1)], {(1,): (0, 1)}, "ab", ((1,),) * 3]:
            if not (isinstance(value, tuple) and len(value) == 2):
                self.assertEqual(code_error(value), "form")

    def test_card(self):
        for card, fault in ((), "form"), ([1], "form"), ((1,) * 7, "form"), (None, "form"), ((True,), ("top", 0)), \
                ((1, 8), ("top", 1)), ((7, 7, 7, 1), "many"):
            self.assertTrue(same(code_error((card, (0, 1))), ("card", fault)))
            self.assertTrue(same(code_error((card, None)), ("card", fault)))

    def test_labels(self):
        for labels in (None, True, 0, "ab", [0, 1], {0: 1}, (), (0,), (0, 1, 0), (0, 1) * 256):
            self.assertEqual(code_error(((1,), labels)), "labels")
        self.assertEqual(code_error(((7, 7, 7), (0, 1) * 255)), "labels")
        self.assertIsNone(code_error(((7, 7, 7), (0, 1) * 256)))

    def test_label(self):
        for odd in ODD_VALUES:
            if odd is None:
                continue
            self.assertTrue(same(code_error(((1,), (odd, 1))), ("label", 0)))
            self.assertTrue(same(code_error(((1, 1), (0, None, odd, odd))), ("label", 2)))
            self.assertTrue(same(code_error(((1,), (None, odd))), ("label", 1)))
        self.assertEqual(code_error(((7, 7, 7), (0, 1) * 255 + (0, True))), ("label", 511))

    def test_empty_few_many(self):
        self.assertEqual(code_error(((1,), (None, None))), "empty")
        self.assertEqual(code_error(((1, 1), (None, 0, 1, 2))), "empty")
        self.assertEqual(code_error(((1, 1), (0, None, 0, None))), "few")
        self.assertEqual(code_error(((1, 1), ((1,), (1,), (1,), (1,)))), "few")
        self.assertIsNone(code_error(((1, 1), (1, None, (1,), None))))
        self.assertIsNone(code_error(((7, 7), tuple(range(64)))))
        self.assertEqual(code_error(((7, 7, 1), tuple(range(65)) + (None,) * 63)), "many")
        self.assertIsNone(code_error(((7, 7, 1), tuple(range(64)) + (0,) * 64)))
        self.assertEqual(code_error(((7, 7, 1), (None,) + tuple(range(127)))), "empty")
        self.assertEqual(code_error(((7, 7, 7), tuple(range(512)))), "many")

    def test_order_of_faults(self):
        self.assertEqual(code_error(((8,), None, None)), "form")
        self.assertEqual(code_error(((8,), None)), ("card", ("top", 0)))
        self.assertEqual(code_error(((1,), (True, None, ()))), "labels")
        self.assertEqual(code_error(((1,), (None, True))), ("label", 1))
        self.assertEqual(code_error(((1,), ([], True))), ("label", 0))
        self.assertEqual(code_error(((1,), (None, None))), "empty")

    def test_by_name_and_kept(self):
        self.assertIsNone(code_error(value=MIXED))
        for value in ODD_VALUES + [MIXED, (MIXED[0], list(MIXED[1])), (list(MIXED[0]), MIXED[1])]:
            check_kept(self, code_error, value)


class Label(unittest.TestCase):
    def test_labels(self):
        for code in [MIXED, with_values(5)] + reference.GREAT:
            for state, name in reference.table(code).items():
                self.assertTrue(same(label(code, state), name))

    def test_no_state(self):
        for state in ODD_VALUES + [(0,), (2, 0), (0, 3), (True, 0), (0, 0, 0), [0, 0]]:
            check_given(self, NoState, state, label, MIXED, state)
            check_kept(self, label, MIXED, state)

    def test_by_name(self):
        self.assertEqual(label(code=MIXED, state=(0, 2)), (3, "ab"))
        self.assertIsNone(label(state=(0, 1), code=MIXED))
        check_error(self, NoState((1, 3)), label, MIXED, state=(1, 3))


class ValuesOf(unittest.TestCase):
    def test_values(self):
        for code in list(reference.small_codes()) + reference.GREAT:
            self.assertTrue(same(values_of(code), tuple(sorted(reference.values(code), key=value_rank))))

    def test_order(self):
        names = ((0,), "b", 9, (0, 0), "ab", 10, ("a",), None)
        self.assertTrue(same(values_of(((7,), names)), (9, 10, "ab", "b", (0,), (0, 0), ("a",))))
        self.assertEqual(values_of(with_values(64)), tuple(range(64)))

    def test_by_name_and_kept(self):
        self.assertEqual(values_of(code=((1,), (1, 0))), (0, 1))
        check_kept(self, values_of, MIXED)


class StatesWith(unittest.TestCase):
    def test_states(self):
        for code in [MIXED, with_values(7)] + reference.GREAT:
            for value in values_of(code):
                expected = tuple(state for state, name in reference.table(code).items() if name == value)
                self.assertTrue(same(states_with(code, value), expected))
                self.assertEqual(list(expected), sorted(expected))

    def test_none(self):
        code = ((1, 1), (0, 1, None, (1,)))
        for value in ODD_VALUES + [2, "a", (0,), (1, 1), (True,), [1], ((1,),)]:
            self.assertEqual(states_with(code, value), ())
            check_kept(self, states_with, code, value)
        self.assertEqual(states_with(code, (1,)), ((1, 1),))

    def test_by_name(self):
        self.assertEqual(states_with(code=MIXED, value="up"), ((0, 0), (1, 0)))
        self.assertEqual(states_with(value=8, code=MIXED), ())
        self.assertEqual(len(states_with(with_values(2), 1)) * 2, len(states(CARD)))


if __name__ == "__main__":
    unittest.main()
