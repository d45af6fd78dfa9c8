"""[B1] to [B5] and [B9]: strengths."""

import itertools
import random
import unittest

import reference
from onlyhigher.codes import values_of
from onlyhigher.errors import NoState, NoValue, Unfit
from onlyhigher.strengths import lot_strengths, ranks_hold, strength, strengths
from samples import ODD_VALUES, check_error, check_given, check_kept, same

TWICE = ((1, 1, 1), (0, 3, 2, 1, 1, 2, 3, 0))
GAP = ((1, 1), (0, 1, 1, None))


class Strengths(unittest.TestCase):
    def test_by_the_definition(self):
        for code in reference.small_codes():
            self.assertTrue(same(strengths(code), reference.ranks(code)), code)

    def test_great_cards(self):
        for code in reference.GREAT:
            self.assertTrue(reference.fits(code, strengths(code)))

    def test_turns(self):
        for top in range(1, 8):
            labels = tuple(at % 2 for at in range(top + 1))
            self.assertEqual(strengths(((top,), labels)), tuple(range(top, -1, -1)))
        self.assertEqual(strengths(((7, 7, 7), reference.GREAT[0][1]))[0], 14)

    def test_at_most_the_rises_left(self):
        for code in list(reference.small_codes()) + reference.GREAT:
            for state, rank in zip(reference.levels(code[0]), strengths(code)):
                self.assertTrue(rank is None or 0 <= rank <= sum(code[0]) - sum(state))

    def test_strength(self):
        for code in [TWICE, GAP, ((1,), (0, 1))] + reference.GREAT[2:]:
            for state, rank in list(zip(reference.levels(code[0]), strengths(code)))[::17]:
                if rank is None:
                    check_error(self, Unfit(), strength, code, state)
                else:
                    self.assertTrue(same(strength(code, state), rank))

    def test_strength_of_no_state(self):
        for state in ODD_VALUES + [(0,), (0, 2), (2, 0), (True, 0), (0, False), [0, 0], (0, 0, 0)]:
            check_given(self, NoState, state, strength, GAP, state)
            check_kept(self, strength, GAP, state)
        check_error(self, Unfit(), strength, GAP, (1, 1))

    def test_by_name_and_kept(self):
        self.assertEqual(strengths(code=GAP), (1, 0, 0, None))
        self.assertEqual(strength(state=(0, 0, 0), code=TWICE), 2)
        check_kept(self, strengths, TWICE)
        check_kept(self, strength, TWICE, (0, 0, 1))


class RanksHold(unittest.TestCase):
    def test_the_ranks_alone(self):
        codes = list(reference.all_codes((1,), [0, 1])) + list(reference.all_codes((1, 1), [0, 1])) + [
            GAP, ((3,), ("a", "b", None, "a")), ((2,), (0, 1, 0)), ((2,), (0, 1, 2))]
        for code in codes:
            right = strengths(code)
            for row in itertools.product((None, -1, 0, 1, 2, 3), repeat=len(right)):
                self.assertIs(ranks_hold(code, row), row == right)
                self.assertIs(reference.fits(code, row), row == right)

    def test_other_rows_of_greater_codes(self):
        pick = random.Random(1)
        for code in list(reference.small_codes())[::7] + reference.GREAT:
            right = strengths(code)
            self.assertIs(ranks_hold(code, right), True)
            for _ in range(4):
                row = list(right)
                at = pick.randrange(len(row))
                row[at] = pick.choice([item for item in (None, -1, 0, 1, 2, 10 ** 399) if item != row[at]])
                self.assertIs(ranks_hold(code, tuple(row)), False)

    def test_shifted_rows(self):
        for code in (TWICE, GAP, reference.GREAT[0]):
            for shift in (-1, 1, 10 ** 300):
                row = tuple(None if item is None else item + shift for item in strengths(code))
                self.assertIs(ranks_hold(code, row), False)

    def test_other_kinds(self):
        for code in (TWICE, GAP, ((3,), (0, 1, 0, 1))):
            right = strengths(code)
            for value in ODD_VALUES + [list(right), right[:-1], right + (0,), right + (None,), (right,), (), {0: right},
                                       dict(enumerate(right)), (0,) * len(right), (None,) * len(right)]:
                self.assertIs(ranks_hold(code, value), False)
                check_kept(self, ranks_hold, code, value)
            for at in range(len(right)):
                for item in ("0", (), [], [0], {}, (right[at],), True, False, str(right[at])):
                    self.assertIs(ranks_hold(code, right[:at] + (item,) + right[at + 1:]), False)

    def test_true_is_not_one(self):
        self.assertIs(ranks_hold(GAP, (1, 0, 0, None)), True)
        self.assertIs(ranks_hold(GAP, (True, 0, 0, None)), False)
        self.assertIs(ranks_hold(GAP, (1, False, 0, None)), False)
        self.assertIs(ranks_hold(GAP, (1, 0, 0, False)), False)

    def test_by_name(self):
        self.assertIs(ranks_hold(code=GAP, value=(1, 0, 0, None)), True)
        self.assertIs(ranks_hold(value=None, code=GAP), False)


class LotStrengths(unittest.TestCase):
    def test_by_the_definition(self):
        for code in list(reference.small_codes())[::3]:
            names = values_of(code)
            for many in range(2, len(names) + 1):
                for lot in itertools.combinations(names, many):
                    self.assertTrue(same(lot_strengths(code, lot), reference.ranks(code, lot)))

    def test_all_values(self):
        for code in list(reference.small_codes()) + reference.GREAT:
            self.assertTrue(same(lot_strengths(code, values_of(code)), strengths(code)))

    def test_label_not_in_the_lot(self):
        code = ((2,), ("a", "b", "c"))
        self.assertEqual(lot_strengths(code, ("b", "c")), (1, 1, 0))
        self.assertEqual(lot_strengths(code, ("a", "c")), (1, 0, 0))

    def test_no_value(self):
        code = ((2,), (0, "a", (1,)))
        for lot, given in ((1,), 1), ((0, "b"), "b"), ((0, 5, 4), 5), ((9, 0), 9), (((1, 1), 0), (1, 1)), ((7, 7), 7), \
                (((1,), "z", 0), "z"):
            check_error(self, NoValue(given), lot_strengths, code, lot)
        given = (2, "up")
        check_given(self, NoValue, given, lot_strengths, code, (0, given, 3))

    def test_unfit(self):
        code = ((2,), (0, "a", (1,)))
        for lot in ((), (0,), ("a",), ("a", 0), (0, 0), ((1,), "a"), (0, "a", "a"), (0, (1,), "a"), ((1,), 0), (0, "a", 0)):
            check_error(self, Unfit(), lot_strengths, code, lot)
        self.assertEqual(lot_strengths(code, (0, "a", (1,))), (1, 0, 0))
        self.assertEqual(lot_strengths(code, ("a", (1,))), (1, 1, 0))

    def test_by_name_and_kept(self):
        self.assertEqual(lot_strengths(code=TWICE, lot=(0, 1)), (2, 1, 1, 1, 1, 0, 0, 0))
        check_kept(self, lot_strengths, TWICE, (0, 1))
        check_kept(self, lot_strengths, TWICE, (1, 0))


class WhatHolds(unittest.TestCase):
    """[B9]."""

    def codes(self):
        return list(reference.small_codes()) + reference.GREAT[:2]

    def test_a_state_above_with_the_same_label_is_never_stronger(self):
        for code in reference.small_codes():
            ranks = dict(zip(reference.levels(code[0]), strengths(code)))
            for state, name in reference.table(code).items():
                if name is not None:
                    for other in reference.ways(code, state, name):
                        self.assertLessEqual(ranks[other], ranks[state])

    def test_against_a_part_of_a_lot_no_state_is_weaker(self):
        for code in self.codes():
            names = values_of(code)
            for lot in [names[:2], names[-2:], names[:3], names[::2]]:
                if len(lot) > 1:
                    for one, other in zip(lot_strengths(code, lot), strengths(code)):
                        self.assertTrue(other is None and one is None or one >= other)

    def test_values_renamed(self):
        for code in self.codes():
            names = reference.values(code)
            for fresh in ([500 - at for at in range(len(names))], [("n", at) for at in range(len(names))]):
                to = dict(zip(names, fresh))
                renamed = (code[0], tuple(to.get(name) for name in code[1]))
                self.assertEqual(strengths(renamed), strengths(code))

    def test_cells_exchanged(self):
        for code in self.codes():
            ranks, table = dict(zip(reference.levels(code[0]), strengths(code))), reference.table(code)
            for order in itertools.permutations(range(len(code[0]))):
                card = tuple(code[0][cell] for cell in order)
                elder = [tuple(state[order.index(cell)] for cell in range(len(order))) for state in reference.levels(card)]
                led = (card, tuple(table[state] for state in elder))
                self.assertEqual(strengths(led), tuple(ranks[state] for state in elder))


if __name__ == "__main__":
    unittest.main()
