"""[H1] to [H6]: slips and stuck cells."""

import itertools
import random
import unittest

import reference
from onlyhigher.errors import Crowded, NoState
from onlyhigher.slips import all_strengths, crowded, read_as, slip_ranks_hold, stuck_strengths, turn_strengths
from onlyhigher.strengths import strengths
from samples import ODD_VALUES, check_error, check_given, check_kept, same

LINE = ((5,), (0, None, 1, None, 0, None))
WIDE = ((2, 4), (0, None, 1, None, 0, None, None, 1, None, 0) + (None,) * 5)
GAP = ((1, 1), (0, 1, 1, None))

# Codes with up to 512 states that withstand as many slips as stand behind them.
GREAT = [
    (reference.spaced((7, 7, 7), 4, 2), 3), (reference.spaced((7, 7, 7), 4, 5), 3), (reference.spaced((7, 7, 7), 3, 2), 2),
    (reference.spaced((1, 1, 1, 3, 3, 3), 4, 2), 3), (reference.spaced((7, 3, 1, 1, 1, 1), 2, 3), 1),
    (((7, 7, 7), (0,) * 500 + (None,) * 11 + (1,)), 0), (reference.GREAT[2], 0), (reference.GREAT[3], 0),
    (((7, 7, 7), (0,) + (None,) * 510 + (1,)), 3),
]


def withstood(codes):
    """Each code with each number of slips that it withstands."""
    for code in codes:
        for slips in range(4):
            if reference.first_crowded(code, slips) is None:
                yield code, slips


def codes():
    return list(reference.sparse_codes()) + list(reference.small_codes())[::9]


class CrowdedStates(unittest.TestCase):
    def test_by_the_definition(self):
        seen = {slips: [] for slips in range(4)}
        for code in codes():
            for slips in range(4):
                expected = reference.first_crowded(code, slips)
                self.assertTrue(same(crowded(code, slips), expected), (code, slips))
                seen[slips].append(expected is None)
        for slips in range(1, 4):
            self.assertGreater(seen[slips].count(True), 10)
            self.assertGreater(seen[slips].count(False), 50)
        self.assertNotIn(False, seen[0])

    def test_balls_that_meet_just_and_just_not(self):
        for gap in range(1, 7):
            code = ((7,), (0,) + (None,) * (gap - 1) + (1,) + (None,) * (7 - gap))
            for slips in range(4):
                # The greater state need not slip: the lesser one comes to it.
                self.assertEqual(crowded(code, slips), ((0,), (gap,)) if gap <= slips else None)
        for high in range(1, 4):
            names = {(0, 0): 0, (0, high): 1, (high, 0): 0}
            code = ((3, 3), tuple(names.get(state) for state in reference.levels((3, 3))))
            for slips in range(4):
                first = ((0, 0), (0, high)) if high <= slips else None
                self.assertEqual(crowded(code, slips), first)

    def test_states_of_which_none_is_above(self):
        names = {(0, 0): 0, (1, 3): 1, (3, 1): 2}
        code = ((3, 3), tuple(names.get(state) for state in reference.levels((3, 3))))
        self.assertEqual([crowded(code, slips) for slips in range(4)], [None, None, ((1, 3), (3, 1)), ((1, 3), (3, 1))])

    def test_the_first_pair(self):
        code = ((7,), (0, 0, None, 1, 0, None, None, 1))
        self.assertEqual([crowded(code, slips) for slips in range(4)], [
            None, ((3,), (4,)), ((1,), (3,)), ((0,), (3,))])
        self.assertEqual(crowded(GAP, 1), ((0, 0), (0, 1)))
        self.assertEqual(crowded(((1, 1), (0, None, 1, 2)), 1), ((0, 0), (1, 0)))
        self.assertEqual(crowded(((1, 1), (0, 0, 0, 2)), 1), ((0, 1), (1, 1)))

    def test_labels_that_are_alike_may_lie_near(self):
        self.assertIsNone(crowded(((7,), (0, 0, 0, None, None, None, 1, 1)), 3))
        self.assertEqual(crowded(((7,), (0, 0, 0, None, None, 1, 1, 1)), 3), ((2,), (5,)))

    def test_great_cards(self):
        for code, slips in GREAT:
            self.assertIsNone(crowded(code, slips))
        self.assertEqual(crowded(reference.spaced((7, 7, 7), 3, 2), 3), ((0, 0, 0), (0, 0, 3)))
        code = ((7, 7, 7), (0,) * 500 + (None,) * 11 + (1,))
        self.assertEqual(crowded(code, 3), reference.first_crowded(code, 3))
        self.assertEqual(crowded(reference.GREAT[2], 1), ((0, 0, 0), (0, 0, 1)))

    def test_by_name_and_kept(self):
        self.assertEqual(crowded(code=LINE, slips=2), ((0,), (2,)))
        self.assertIsNone(crowded(slips=1, code=LINE))
        check_kept(self, crowded, WIDE, 1)
        check_kept(self, crowded, WIDE, 2)


class ReadAs(unittest.TestCase):
    def test_by_the_definition(self):
        found = []
        for code, slips in withstood(codes()):
            names = reference.table(code)
            owners = {state: set() for state in names}
            for state, name in names.items():
                for other in reference.ball(code[0], state, slips) if name is not None else ():
                    owners[other].add(name)
            for state in names:
                expected = owners[state].pop() if owners[state] else None
                self.assertTrue(same(read_as(code, slips, state), expected))
                found.append(expected is None)
        self.assertGreater(found.count(True), 100)
        self.assertGreater(found.count(False), 100)

    def test_no_slips(self):
        for code in codes()[::3]:
            for state, name in reference.table(code).items():
                self.assertTrue(same(read_as(code, 0, state), name))

    def test_errors(self):
        for state in ODD_VALUES + [(6,), (-1,), (True,), [3], 3, (3, 0), ("3",)]:
            for slips in range(4):
                check_given(self, NoState, state, read_as, LINE, slips, state)
            check_kept(self, read_as, LINE, 1, state)
        for state in reference.levels((5,)):
            check_error(self, Crowded(((0,), (2,))), read_as, LINE, 2, state)

    def test_order_of_errors(self):
        check_error(self, NoState((6,)), read_as, LINE, 3, (6,))
        check_error(self, Crowded(((0, 0), (0, 1))), read_as, GAP, 1, (0, 0))

    def test_great_cards(self):
        for code, slips in GREAT:
            names, expected = reference.table(code), {}
            for state, name in names.items():
                for slipped in reference.ball(code[0], state, slips) if name is not None else ():
                    expected[slipped] = name
            for state in list(names)[::31]:
                self.assertEqual(read_as(code, slips, state), expected.get(state))

    def test_by_name(self):
        self.assertEqual(read_as(code=LINE, slips=1, state=(3,)), 1)
        self.assertIsNone(read_as(state=(3,), slips=0, code=LINE))


class TurnStrengths(unittest.TestCase):
    def test_by_the_definition(self):
        best = []
        for code, slips in withstood(codes()):
            expected = reference.turn_ranks(code, slips)
            self.assertTrue(same(turn_strengths(code, slips), expected), (code, slips))
            self.assertIs(slip_ranks_hold(code, slips, expected), True)
            best.append((slips, expected[0]))
        for slips in range(4):
            self.assertGreater(len([rank for at, rank in best if at == slips and rank > 0]), 5)
        self.assertGreater(len([rank for at, rank in best if at > 0 and rank > 1]), 5)

    def test_crowded(self):
        for code in codes()[::2]:
            for slips in range(4):
                pair = reference.first_crowded(code, slips)
                if pair is not None:
                    for call, rest in ((turn_strengths, ()), (slip_ranks_hold, (None,)), (slip_ranks_hold, ((),)), (all_strengths, ())):
                        check_error(self, Crowded(pair), call, code, slips, *rest)

    def test_what_slips_do(self):
        # One slip at (1, 2) leads to (2, 2), past all states that are labelled 0; with one cell no slip does harm.
        ranks = dict(zip(reference.levels(WIDE[0]), turn_strengths(WIDE, 1)))
        self.assertEqual([ranks[state] for state in ((0, 0), (0, 2), (0, 4), (1, 2), (1, 4))], [1, 1, 0, 0, 0])
        self.assertEqual(turn_strengths(LINE, 1), (2, None, 1, None, 0, None))
        code = ((7,), (0, None, None, None, 1, None, None, None))
        self.assertEqual([turn_strengths(code, slips)[0] for slips in range(4)], [1, 1, 1, 1])
        code = ((3, 1), (0, None, None, None, 0, None, None, 1))
        self.assertEqual([turn_strengths(code, slips)[0] for slips in range(2)], [1, 1])
        code = ((2, 2), (0, None, 1) + (None,) * 6)
        self.assertEqual([turn_strengths(code, slips)[0] for slips in range(2)], [1, 0])

    def test_great_cards(self):
        for code, slips in GREAT:
            found = turn_strengths(code, slips)
            self.assertTrue(self.fits(code, slips, found))
            self.assertIs(slip_ranks_hold(code, slips, found), True)
            self.assertIs(slip_ranks_hold(code, slips, (found[0] + 1,) + found[1:]), False)
        self.assertEqual([turn_strengths(reference.spaced((7, 7, 7), 4, 2), slips)[0] for slips in range(4)], [5, 5, 5, 5])

    def fits(self, code, slips, row):
        """[H3], item by item, with the items of the states above."""
        names, places = reference.table(code), dict(zip(reference.levels(code[0]), row))
        best = {}
        for state in names:
            best[state] = {}
            for other, name in names.items():
                if name is not None and reference.above(state, other):
                    best[state][name] = max(best[state].get(name, -1), places[other])
        for state, name in names.items():
            if (name is None) != (places[state] is None):
                return False
            if name is not None and places[state] != 1 + min(
                    best[other].get(value, -1) for other in reference.ball(code[0], state, slips)
                    for value in reference.values(code) if value != name):
                return False
        return True

    def test_by_name_and_kept(self):
        self.assertEqual(turn_strengths(code=WIDE, slips=1)[0], 1)
        check_error(self, Crowded(((0,), (2,))), turn_strengths, slips=2, code=LINE)
        check_kept(self, turn_strengths, WIDE, 1)
        check_kept(self, turn_strengths, LINE, 3)


class SlipRanksHold(unittest.TestCase):
    def test_all_rows(self):
        for code, slips in ((LINE, 1), (LINE, 0), (((3,), (0, None, 1, None)), 1), (((1, 1), (0, None, None, 1)), 1)):
            right = turn_strengths(code, slips)
            for row in itertools.product((None, 0, 1, 2), repeat=len(right)):
                self.assertIs(slip_ranks_hold(code, slips, row), row == right)

    def test_other_kinds(self):
        right = turn_strengths(LINE, 1)
        for value in ODD_VALUES + [list(right), right[:-1], right + (None,), (right,), dict(enumerate(right)),
                                   (2, None, True, None, 0, None), (2, None, 1, None, False, None), (2, 0, 1, None, 0, None),
                                   ("2", None, 1, None, 0, None), (10 ** 399, None, 1, None, 0, None), (2, None, 1, None, -1, None)]:
            self.assertIs(slip_ranks_hold(LINE, 1, value), False)
            check_kept(self, slip_ranks_hold, LINE, 1, value)
            check_error(self, Crowded(((0,), (2,))), slip_ranks_hold, LINE, 2, value)
        self.assertIs(slip_ranks_hold(WIDE, 1, strengths(WIDE)), False)

    def test_by_name(self):
        self.assertIs(slip_ranks_hold(code=LINE, slips=1, value=(2, None, 1, None, 0, None)), True)
        self.assertIs(slip_ranks_hold(value=None, slips=1, code=LINE), False)


class AllStrengths(unittest.TestCase):
    def test_by_the_definition(self):
        unlike = 0
        for code, slips in withstood(codes()):
            expected = reference.all_ranks(code, slips)
            found = all_strengths(code, slips)
            self.assertTrue(same(found, expected), (code, slips))
            unlike += found[slips] not in (turn_strengths(code, slips), strengths(code))
        self.assertGreater(unlike, 0)

    def test_great_cards(self):
        for code, slips in GREAT:
            rows = all_strengths(code, slips)
            self.assertEqual(len(rows), slips + 1)
            self.assertEqual(rows[0], strengths(code))
            for left, row in enumerate(rows):
                self.assertTrue(self.fits(code, rows, left))

    def fits(self, code, rows, left):
        """[H4], item by item, for some of the states."""
        names = reference.table(code)
        places = [dict(zip(reference.levels(code[0]), row)) for row in rows]
        for state, name in list(names.items())[::13]:
            if (name is None) != (places[left][state] is None):
                return False
            if name is None:
                continue
            least = []
            for slipped in reference.ball(code[0], state, left):
                rest = places[left - sum(slipped) + sum(state)]
                best = {}
                for other, read in names.items():
                    if read is not None and reference.above(slipped, other):
                        best[read] = max(best.get(read, -1), rest[other])
                least.extend(best.get(value, -1) for value in reference.values(code) if value != name)
            if places[left][state] != 1 + min(least):
                return False
        return True

    def test_slips_that_are_used_up(self):
        rows = all_strengths(WIDE, 1)
        self.assertEqual((rows[0][0], rows[1][0], turn_strengths(WIDE, 1)[0]), (2, 2, 1))

    def test_by_name_and_kept(self):
        self.assertEqual(all_strengths(code=LINE, slips=0), (strengths(LINE),))
        check_error(self, Crowded(((0,), (2,))), all_strengths, slips=2, code=LINE)
        check_kept(self, all_strengths, WIDE, 1)
        check_kept(self, all_strengths, LINE, 3)


class StuckStrengths(unittest.TestCase):
    def test_by_the_definition(self):
        for code in codes()[::2]:
            cells = range(len(code[0]))
            for many in range(len(code[0]) + 1):
                for stuck in itertools.combinations(cells, many):
                    self.assertTrue(same(stuck_strengths(code, stuck), reference.stuck_ranks(code, stuck)), (code, stuck))

    def test_all_cells(self):
        for code in codes()[::4] + reference.GREAT:
            self.assertEqual(
                stuck_strengths(code, tuple(range(len(code[0])))), tuple(None if name is None else 0 for name in code[1]))

    def test_codes_that_are_crowded_may_be_stuck(self):
        self.assertEqual(stuck_strengths(GAP, (0,)), (1, 0, 0, None))
        self.assertEqual(stuck_strengths(GAP, (1,)), (1, 0, 0, None))

    def test_great_cards(self):
        code = reference.GREAT[0]
        # The label tells whether the levels of the first and the third cell are together even.
        for stuck, many in (((), 14), ((0,), 7), ((1,), 14), ((2,), 7), ((0, 1), 7), ((0, 2), 0), ((0, 1, 2), 0)):
            self.assertEqual(stuck_strengths(code, stuck)[0], many)
        for code in reference.GREAT:
            for stuck in ((), (0,), (1, 2)):
                found = dict(zip(reference.levels(code[0]), stuck_strengths(code, stuck)))
                names = reference.table(code)
                for state, name in list(names.items())[::29]:
                    if name is None:
                        self.assertIsNone(found[state])
                        continue
                    best = {}
                    for other, read in names.items():
                        if read is not None and reference.above(state, other) and all(
                                state[cell] == other[cell] for cell in stuck):
                            best[read] = max(best.get(read, -1), found[other])
                    self.assertEqual(found[state], 1 + min(
                        best.get(value, -1) for value in reference.values(code) if value != name))

    def test_by_name_and_kept(self):
        self.assertEqual(stuck_strengths(code=LINE, cells=(0,)), (0, None, 0, None, 0, None))
        self.assertEqual(stuck_strengths(cells=(), code=LINE), strengths(LINE))
        check_kept(self, stuck_strengths, WIDE, (1,))


class WhatHolds(unittest.TestCase):
    """[H6]."""

    def not_greater(self, row, other):
        self.assertTrue(all(
            one is None and two is None or one <= two for one, two in zip(row, other)), (row, other))

    def test_no_slips_and_no_cells(self):
        for code in codes() + [code for code, _ in GREAT]:
            self.assertEqual(turn_strengths(code, 0), strengths(code))
            self.assertEqual(all_strengths(code, 0), (strengths(code),))
            self.assertEqual(stuck_strengths(code, ()), strengths(code))

    def test_more_slips_are_never_better(self):
        for code, slips in list(withstood(codes())) + GREAT:
            rows = all_strengths(code, slips)
            for fewer in range(slips):
                self.not_greater(turn_strengths(code, slips), turn_strengths(code, fewer))
                self.not_greater(rows[fewer + 1], rows[fewer])
                self.assertEqual(all_strengths(code, fewer), rows[:fewer + 1])
            for left in range(slips + 1):
                self.not_greater(turn_strengths(code, left), rows[left])

    def test_more_stuck_cells_are_never_better(self):
        for code in codes()[::3] + reference.GREAT:
            cells = range(len(code[0]))
            rows = {stuck: stuck_strengths(code, stuck)
                    for many in range(3) for stuck in itertools.combinations(cells, many)}
            for one, other in itertools.product(rows, repeat=2):
                if set(one) < set(other):
                    self.not_greater(rows[other], rows[one])

    def test_what_was_written_is_read(self):
        pick = random.Random(1)
        for code, slips in list(withstood(codes()))[::2] + GREAT:
            for state, name in list(reference.table(code).items())[::23]:
                if name is not None:
                    some = reference.ball(code[0], state, slips)
                    for slipped in pick.sample(some, min(3, len(some))):
                        self.assertTrue(same(read_as(code, slips, slipped), name))


if __name__ == "__main__":
    unittest.main()
