"""[N1] to [N3]: rows of values that are known ahead."""

import itertools
import random
import unittest

import reference
from onlyhigher.ahead import ahead_strength, failing_row, row_states
from onlyhigher.errors import NoValue, TooMany, Unfit
from onlyhigher.strengths import strengths
from samples import ODD_VALUES, check_error, check_given, check_kept, same

TURN, FORK = ((1, 1), (0, 1, 1, 0)), ((3,), ("a", "b", "c", "b"))
GAP = ((1, 1), (0, 1, 1, None))


def can_be_done(code, values, state=None):
    """[N1]: the row can be done ahead, from the state on."""
    state = (0,) * len(code[0]) if state is None else state
    return not values or any(can_be_done(code, values[1:], other) for other in reference.ways(code, state, values[0]))


def asked_rows(code, many):
    """[N1]: all asked rows of so many values, in order."""
    names = sorted(reference.values(code), key=reference.order_key)
    for row in itertools.product(names, repeat=many):
        if all(one != other for one, other in zip((code[1][0],) + row, row)):
            yield row


def brute_failing(code):
    for many in itertools.count(1):
        for row in asked_rows(code, many):
            if not can_be_done(code, row):
                return row


def does(code, values, states):
    """The states do the row."""
    names = reference.table(code)
    return isinstance(states, tuple) and [names[state] for state in states] == list(values) and all(
        reference.above(one, other) for one, other in zip(((0,) * len(code[0]),) + states, states))


def codes():
    return list(reference.small_codes())[::5] + reference.some_codes((3, 3), [0, "a"], 8, 1, 0) + reference.some_codes(
        (2, 2, 1), [0, "a", (0,)], 8, 2, 0) + reference.some_codes((1, 1, 1, 1), [3, 1, 2], 8, 3, 0)


GREAT = [
    ((3, 3, 3), reference.sums_labels((3, 3, 3), 2)), ((3, 3, 3), reference.sums_labels((3, 3, 3), 5)),
    ((1, 1, 1, 1, 1, 1), reference.sums_labels((1, 1, 1, 1, 1, 1), 4)), ((7, 7), tuple(range(64))),
    ((1, 1, 1, 1, 3), reference.sums_labels((1, 1, 1, 1, 3), 3)), ((7, 7), reference.sums_labels((7, 7), 4)),
]


class RowStates(unittest.TestCase):
    def test_by_the_definition(self):
        seen = [0, 0]
        for code in codes():
            for many in range(5):
                for row in itertools.islice(asked_rows(code, many), 40):
                    found = row_states(code, row)
                    seen[found is None] += 1
                    if can_be_done(code, row):
                        self.assertTrue(does(code, row, found), (code, row, found))
                    else:
                        self.assertIsNone(found)
        self.assertTrue(min(seen) > 500, seen)

    def test_what_comes_is_known(self):
        # Only the second way to 1 goes on to 2.
        code = ((1, 1, 1), (0, 1, 1, 1, 2, 0, 2, 1))
        self.assertTrue(does(code, (1, 2), row_states(code, (1, 2))))
        self.assertEqual(row_states(((3,), (0, 1, 0, 1)), (1, 0, 1)), ((1,), (2,), (3,)))
        self.assertEqual(row_states(((3,), (0, 1, 0, 1)), (1, 0, 1, 0)), None)
        self.assertEqual(row_states(((4,), (0, 2, 1, 0, 1)), (1, 0, 1)), ((2,), (3,), (4,)))
        self.assertEqual(row_states(GAP, ()), ())

    def test_great_cards(self):
        for code in reference.GREAT:
            row = failing = None
            for many in range(1, 22):
                row = tuple(itertools.islice(itertools.cycle(reference.values(code)), 1, many + 1))
                found = row_states(code, row)
                if found is None:
                    failing = row
                    break
                self.assertTrue(does(code, row, found))
            self.assertIsNotNone(failing)

    def test_long_rows(self):
        for code in (reference.GREAT[0], TURN):
            for many in (100, 1001, 4000):
                row = tuple((at + 1) % 2 for at in range(many))
                self.assertIsNone(row_states(code, row))
                check_error(self, Unfit(), row_states, code, row + row[-1:])
                check_error(self, NoValue(2), row_states, code, row + (2,))

    def test_no_values(self):
        for value in ODD_VALUES + [2, "a", (0,), [0], "0"]:
            for row in ((value,), (1, 0, value), (0, value), (1, 1, value, 9), (value, value)):
                check_given(self, NoValue, value, row_states, TURN, row)
                check_kept(self, row_states, TURN, row)

    def test_no_asked_rows(self):
        for row in ((0,), (0, 1), (1, 1), (1, 0, 0), (1, 0, 1, 0, 1, 1), (0, 0)):
            check_error(self, Unfit(), row_states, TURN, row)
        check_error(self, Unfit(), row_states, FORK, ("b", "b"))
        check_error(self, NoValue("d"), row_states, FORK, ("a", "b", "b", "d", "e"))

    def test_by_name(self):
        self.assertEqual(row_states(code=FORK, values=("c", "b")), ((2,), (3,)))
        self.assertIsNone(row_states(values=("b", "a"), code=FORK))


class FailingRow(unittest.TestCase):
    def test_by_the_definition(self):
        seen = set()
        for code in codes():
            found = failing_row(code)
            seen.add(len(found))
            self.assertTrue(same(found, brute_failing(code)), code)
            self.assertEqual(ahead_strength(code), len(found) - 1)
        self.assertTrue({2, 3, 4, 5, 6} <= seen, seen)

    def test_the_order_of_values(self):
        self.assertEqual(failing_row(((1,), ("b", "a"))), ("a", "b"))
        # Neither "a" nor (0,) nor 7 can be written: the integer is the least.
        self.assertEqual(failing_row(((3,), (1, "a", (0,), 7))), (7, 1))
        self.assertEqual(failing_row(((3,), (1, (0,), 10, 9))), (9, 1))
        self.assertEqual(failing_row(((3,), (5, None, (0,), 10))), (10, 5))
        self.assertEqual(failing_row(((4,), (0, 1, 2, 1, 2))), (1, 0))

    def test_great_cards(self):
        for code in GREAT:
            found = failing_row(code)
            self.assertIsNone(row_states(code, found))
            for many in range(len(found)):
                for row in itertools.islice(asked_rows(code, many), 300):
                    self.assertTrue(does(code, row, row_states(code, row)))
            for row in itertools.takewhile(lambda row: row < found, asked_rows(code, len(found))):
                self.assertTrue(does(code, row, row_states(code, row)))
            self.assertEqual(ahead_strength(code), len(found) - 1)

    def test_many_states(self):
        for card in ((3, 3, 3), (7, 7), (1,) * 6, (1, 3, 7)):
            self.assertEqual(ahead_strength((card, tuple(sum(state) % 2 for state in reference.levels(card)))), sum(card))
        # 65 states and more: (4, 12) is no card, but (4, 6, 1) and (6, 1, 4) have 70, (2, 2, 7) has 72.
        for card in ((4, 6, 1), (2, 2, 7), (1, 1, 1, 1, 4), (7, 7, 1), (7, 7, 7), (2, 4, 4)):
            code = (card, reference.sums_labels(card, 2))
            for call in (failing_row, ahead_strength):
                check_error(self, TooMany(64), call, code)
            self.assertEqual(len(row_states(code, (1, 0))), 2)

    def test_by_name_and_kept(self):
        self.assertEqual((failing_row(code=TURN), ahead_strength(code=FORK)), ((1, 0, 1), 1))
        check_kept(self, failing_row, FORK)
        check_kept(self, ahead_strength, FORK)


class WhatHolds(unittest.TestCase):
    """[N3]."""

    def test_ahead_and_not(self):
        greater, pick = 0, random.Random(4)
        for code in codes() + GREAT + [((3, 3, 3), tuple(pick.randrange(4) for _ in range(64))) for _ in range(10)]:
            ahead, rank = ahead_strength(code), strengths(code)[0]
            self.assertGreaterEqual(ahead, rank)
            greater += ahead > rank
            if len(reference.values(code)) == 2:
                self.assertEqual(ahead, rank)
        self.assertGreater(greater, 2)


if __name__ == "__main__":
    unittest.main()
