"""[B6] to [B8]: told states and foes, plays, and the rises that are needed."""

import unittest

import reference
from onlyhigher.codes import values_of
from onlyhigher.errors import NoState, NoValue, Unfit
from onlyhigher.plays import play, rises_needed, told_foe, told_state
from onlyhigher.strengths import strengths
from samples import ODD_VALUES, check_error, check_given, check_kept, same

TWICE = ((1, 1, 1), (0, 3, 2, 1, 1, 2, 3, 0))
TURNS = ((3,), ("a", "b", "a", "b"))
GAP = ((1, 1), (0, 1, 1, None))
NO_STATES = ODD_VALUES + [(0,), (0, 2), (2, 0), (-1, 0), (True, 0), (0, False), [0, 0], (0, 0, 0), (0, "0")]
NO_VALUES = ODD_VALUES + [2, "a", (0,), (0, 1), (True,), [0], (1, True)]


def told(code, ranks, state, value):
    """[B6], word by word."""
    best = reference.ways(code, state, value)
    if not best:
        return None
    top = max(ranks[other] for other in best)
    best = [other for other in best if ranks[other] == top]
    near = min(sum(other) - sum(state) for other in best)
    return min(other for other in best if sum(other) - sum(state) == near)


class ToldState(unittest.TestCase):
    def test_by_the_definition(self):
        for code in list(reference.small_codes())[::5]:
            ranks = dict(zip(reference.levels(code[0]), reference.ranks(code)))
            for state, name in reference.table(code).items():
                for value in values_of(code):
                    if name is not None and name != value:
                        self.assertTrue(same(told_state(code, state, value), told(code, ranks, state, value)))

    def test_great_cards(self):
        for code in reference.GREAT:
            ranks, table = dict(zip(reference.levels(code[0]), strengths(code))), reference.table(code)
            for state in list(table)[::90]:
                for value in values_of(code)[:3]:
                    if table[state] is not None and table[state] != value:
                        self.assertEqual(told_state(code, state, value), told(code, ranks, state, value))

    def test_the_strongest_state(self):
        # (0, 1) is nearer and less, but nothing can be written there.
        code = ((3, 1), (0, 1, None, None, 1, None, 0, None))
        self.assertEqual(strengths(code), (2, 0, None, None, 1, None, 0, None))
        self.assertEqual(told_state(code, (0, 0), 1), (2, 0))

    def test_the_nearest_of_the_strongest(self):
        code = ((1, 2), (0, None, 1, 1, None, 0))
        self.assertEqual(strengths(code), (2, None, 1, 1, None, 0))
        self.assertEqual(told_state(code, (0, 0), 1), (1, 0))

    def test_the_least_of_the_nearest(self):
        code = ((1, 1, 1), (0, None, 1, None, 1, None, None, 0))
        self.assertEqual(strengths(code), (2, None, 1, None, 1, None, None, 0))
        self.assertEqual(told_state(code, (0, 0, 0), 1), (0, 1, 0))

    def test_can_not_be_written(self):
        self.assertIsNone(told_state(TURNS, (3,), "a"))
        self.assertIsNone(told_state(GAP, (1, 0), 0))

    def test_errors(self):
        for state in NO_STATES:
            check_given(self, NoState, state, told_state, GAP, state, 1)
            check_kept(self, told_state, GAP, state, 1)
        for value in NO_VALUES:
            check_given(self, NoValue, value, told_state, GAP, (0, 0), value)
            check_given(self, NoValue, value, told_state, GAP, (1, 1), value)
            check_kept(self, told_state, GAP, (0, 0), value)
        check_error(self, Unfit(), told_state, GAP, (1, 1), 0)
        check_error(self, Unfit(), told_state, GAP, (1, 1), 1)
        check_error(self, Unfit(), told_state, GAP, (0, 0), 0)

    def test_order_of_errors(self):
        check_error(self, NoState((0, 2)), told_state, GAP, (0, 2), "no")
        check_error(self, NoState(None), told_state, GAP, None, None)
        check_error(self, NoValue(None), told_state, GAP, (1, 1), None)

    def test_by_name(self):
        self.assertEqual(told_state(code=GAP, state=(0, 0), value=1), (0, 1))
        self.assertEqual(told_state(GAP, value=1, state=(0, 0)), (0, 1))


class ToldFoe(unittest.TestCase):
    def test_by_the_definition(self):
        for code in list(reference.small_codes())[::3]:
            ranks = dict(zip(reference.levels(code[0]), reference.ranks(code)))
            for state, name in reference.table(code).items():
                if name is None:
                    check_error(self, Unfit(), told_foe, code, state)
                    continue
                expected = [value for value in values_of(code) if value != name and not any(
                    ranks[other] >= ranks[state] for other in reference.ways(code, state, value))]
                self.assertTrue(same(told_foe(code, state), expected[0]))

    def test_order_of_values(self):
        code = ((1,), ("a", (0,)))
        self.assertEqual((told_foe(code, (0,)), told_foe(code, (1,))), ((0,), "a"))
        code = ((1, 1), ("z", (1,), "b", 7))
        self.assertEqual([told_foe(code, state) for state in reference.levels((1, 1))], [7, "b", "z", "b"])

    def test_errors(self):
        for state in NO_STATES:
            check_given(self, NoState, state, told_foe, GAP, state)
            check_kept(self, told_foe, GAP, state)
        check_error(self, Unfit(), told_foe, GAP, (1, 1))

    def test_by_name(self):
        self.assertEqual(told_foe(code=GAP, state=(0, 0)), 1)
        self.assertEqual(told_foe(state=(0, 1), code=GAP), 0)


class Play(unittest.TestCase):
    def check_play(self, code, values):
        expected, state = [], (0,) * len(code[0])
        table, ranks = reference.table(code), dict(zip(reference.levels(code[0]), strengths(code)))
        for value in values:
            state = state if table[state] == value else told(code, ranks, state, value)
            if state is None:
                break
            expected.append(state)
        self.assertTrue(same(play(code, values), tuple(expected)))

    def test_by_the_definition(self):
        for code in list(reference.small_codes())[::4] + reference.GREAT:
            names = values_of(code)
            for row in ((), names, names[::-1], names * 3, (names[0], names[0], names[1], names[1]) * 2, names[-2:] * 30):
                self.check_play(code, row)

    def test_values_that_are_read_already(self):
        self.assertEqual(play(TURNS, ("a",) * 4000), ((0,),) * 4000)
        self.assertEqual(play(TURNS, ("a", "a", "b", "b", "a")), ((0,), (0,), (1,), (1,), (2,)))
        self.assertEqual(play(GAP, (0, 1, 1, 1)), ((0, 0), (0, 1), (0, 1), (0, 1)))

    def test_ends_ahead_of_what_can_not_be_written(self):
        self.assertEqual(play(TURNS, ("b", "a", "b", "a", "b")), ((1,), (2,), (3,)))
        self.assertEqual(play(TURNS, ("b", "a", "b", "a", "b", "b", "b")), ((1,), (2,), (3,)))
        self.assertEqual(play(((1,), ("a", "b")), ("b", "a")), ((1,),))
        self.assertEqual(play(((1, 1), (0, None, 1, 2)), (2, 1)), ((1, 1),))
        self.assertEqual(play(GAP, (1, 0)), ((0, 1),))

    def test_long_rows(self):
        code = reference.GREAT[0]
        row = (1,) * 1000 + (0, 1) * 20000
        states = play(code, row)
        self.assertEqual(len(states), 1000 + strengths(code)[0] - 1)
        self.check_play(code, row)

    def test_no_value(self):
        for row, given in ((5,), 5), ((1, 0, 0, 0, 7, 8), 7), ((0, "b", 9), "b"), (((1,), 2), (1,)):
            check_error(self, NoValue(given), play, GAP, row)
        given = (5, "six")
        check_given(self, NoValue, given, play, GAP, (1, 0, 1) * 2000 + (given, 9))

    def test_by_name_and_kept(self):
        self.assertEqual(play(code=GAP, values=(1,)), ((0, 1),))
        self.assertEqual(play(values=(), code=GAP), ())
        check_kept(self, play, TWICE, (1, 1, 0, 2))
        check_kept(self, play, TWICE, (1, 5))


class RisesNeeded(unittest.TestCase):
    def test_by_the_definition(self):
        for code in list(reference.small_codes())[::3]:
            for state, name in reference.table(code).items():
                for many in range(sum(code[0]) + 2):
                    if name is None:
                        check_error(self, Unfit(), rises_needed, code, state, many)
                    else:
                        self.assertTrue(same(rises_needed(code, state, many), reference.least_rises(code, state, many)))

    def test_no_writes(self):
        for code in (TWICE, TURNS, GAP):
            for state, name in reference.table(code).items():
                if name is not None:
                    self.assertTrue(same(rises_needed(code, state, 0), 0))

    def test_beyond_the_strength(self):
        for code in (TWICE, TURNS, reference.GREAT[1]):
            state, rank = (0,) * len(code[0]), strengths(code)[0]
            self.assertIsNotNone(rises_needed(code, state, rank))
            for many in (rank + 1, rank + 2, 10 ** 6, 10 ** 399):
                self.assertIsNone(rises_needed(code, state, many))

    def test_other_states_than_the_told_ones(self):
        # The told state for 1 is (0, 2): it is stronger, but (1, 0) is nearer.
        code = ((1, 4), (0, None, 1, 0, 1, 1, None, None, None, None))
        self.assertEqual(told_state(code, (0, 0), 1), (0, 2))
        self.assertEqual(rises_needed(code, (0, 0), 1), 1)
        self.assertEqual([rises_needed(code, (0, 0), many) for many in range(5)], [0, 1, 3, 4, None])

    def test_great_cards(self):
        code = reference.GREAT[0]
        self.assertEqual([rises_needed(code, (0, 0, 0), many) for many in (1, 2, 7, 14, 15)], [1, 2, 7, 14, None])
        for code in reference.GREAT[1:]:
            costs = [rises_needed(code, (0,) * len(code[0]), many) for many in range(strengths(code)[0] + 1)]
            self.assertEqual(costs, sorted(set(costs)))

    def test_errors(self):
        for state in NO_STATES:
            for many in (0, 1, 10 ** 9):
                check_given(self, NoState, state, rises_needed, GAP, state, many)
            check_kept(self, rises_needed, GAP, state, 1)
        for many in (0, 1, 10 ** 9):
            check_error(self, Unfit(), rises_needed, GAP, (1, 1), many)

    def test_by_name(self):
        self.assertEqual(rises_needed(code=TWICE, state=(0, 0, 0), many=2), 3)
        self.assertEqual(rises_needed(TWICE, many=1, state=(0, 0, 0)), 1)


if __name__ == "__main__":
    unittest.main()
