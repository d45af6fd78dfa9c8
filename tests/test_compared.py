"""[D1] to [D5] and, of these, [D8]: follows, strikes, and their papers."""

import itertools
import random
import unittest

import reference
from onlyhigher.compared import follows, never_weaker, pairs_hold, strikes, strikes_hold
from onlyhigher.errors import Unfit
from onlyhigher.strengths import strength, strengths
from samples import ODD_VALUES, check_error, check_kept, same

FLAT = ((1, 1), (0, 1, 1, 0))
TALL = ((2,), (0, 1, 0))
SHORT = ((1, 1), (0, 1, 1, None))
ALL = (follows, never_weaker, strikes)
EMPTY = ((0, 0), (0, 0))

def holds(code, other):
    """[D2] and [D4]: the pairs that are never struck, and the rounds of all others."""
    rounds = reference.brute_rounds(code, other)
    return [pair for pair in reference.all_pairs(code, other) if pair not in rounds], rounds


class FollowsAndStrikes(unittest.TestCase):
    def test_by_the_definition(self):
        both = []
        for code, other in reference.like_codes():
            kept, rounds = holds(code, other)
            self.assertTrue(same(follows(code, other), tuple(kept)), (code, other))
            struck = tuple(pair + (rounds[pair],) for pair in sorted(rounds))
            self.assertTrue(same(strikes(code, other), struck), (code, other))
            empty = ((0,) * len(code[0]), (0,) * len(other[0]))
            self.assertIs(never_weaker(code, other), empty in kept)
            both.append((empty in kept, max(list(rounds.values()) + [0])))
        for kinds in ((True, 0), (True, 1), (True, 2), (False, 2), (False, 3)):
            self.assertGreater(both.count(kinds), 10)

    def test_the_greatest_closed_lot(self):
        for code, other in list(reference.like_codes())[::9]:
            if len(reference.all_pairs(code, other)) > 10:
                continue
            kept = set()
            for lot in itertools.product((False, True), repeat=len(reference.all_pairs(code, other))):
                chosen = {pair for pair, into in zip(reference.all_pairs(code, other), lot) if into}
                if reference.is_closed(code, other, chosen):
                    kept |= chosen
            self.assertEqual(follows(code, other), tuple(sorted(kept)))

    def test_states_without_labels_are_no_answer_and_no_question(self):
        code, other = ((2,), (0, None, 1)), ((2,), (0, 1, None))
        self.assertEqual(follows(code, other), (((0,), (0,)), ((2,), (1,))))
        self.assertEqual(follows(other, code), (((0,), (0,)), ((1,), (2,))))
        self.assertEqual(strikes(code, other), ())

    def test_rounds_of_a_row(self):
        # A row of four turns is struck by one of fewer from its end on.
        long, short = ((4,), (0, 1, 0, 1, 0)), ((3,), (0, 1, 0, 1))
        rounds = {item[:2]: item[2] for item in strikes(short, long)}
        self.assertEqual(rounds[((0,), (0,))], 4)
        self.assertEqual(rounds[((1,), (1,))], 3)
        self.assertEqual(rounds[((3,), (1,))], 1)
        self.assertEqual(strikes(long, short)[0], ((2,), (0,), 3))
        self.assertIs(never_weaker(long, short), True)
        self.assertIs(never_weaker(short, long), False)

    def check_both(self, code, other, expected):
        kept, struck = follows(code, other), strikes(code, other)
        pairs = reference.all_pairs(code, other)
        self.assertEqual(sorted(kept + tuple(item[:2] for item in struck)), pairs)
        self.assertIs(pairs[0] in kept, expected)
        self.assertIs(never_weaker(code, other), expected)
        self.assertIs(pairs_hold(code, other, kept), expected)
        self.assertIs(strikes_hold(code, other, struck), not expected)

    def test_great_cards(self):
        rows = [
            ((7, 7), tuple(None if sum(state) % 3 == 2 else sum(state) % 3 for state in reference.levels((7, 7)))),
            ((3,), (0, 1, 0, 1)), ((7, 7), reference.sums_labels((7, 7), 2)),
            ((1, 1, 1, 1, 1, 1), tuple(int(sum(state) > 2) for state in reference.levels((1,) * 6)))]
        for code, other in itertools.product(rows, repeat=2):
            # From the empty state each of them can do as many turns as it is strong, and no foe has a choice.
            self.check_both(code, other, strengths(code)[0] >= strengths(other)[0])

    def test_the_greatest_cards(self):
        turns, cells = reference.GREAT[0], ((1, 1, 1, 3, 3, 3), reference.sums_labels((1, 1, 1, 3, 3, 3), 2))
        self.check_both(turns, cells, True)
        self.assertIs(never_weaker(cells, turns), False)
        for code in reference.GREAT[1:]:
            self.assertIs(never_weaker(code, code), True)

    def test_values_and_readings_that_differ(self):
        codes = [
            FLAT, TALL, ((2,), (1, 0, 1)), ((2,), (0, 1, 2)), ((2,), (0, 2, 0)), ((1,), ("a", 0)), ((1,), (0, "a")),
            ((1,), (0, (1,))), ((1, 1), (0, None, 2, 1)), ((1,), (1, 0))]
        for code, other in itertools.product(codes, repeat=2):
            fit = set(code[1]) - {None} == set(other[1]) - {None} and code[1][0] == other[1][0]
            for call in ALL:
                if fit:
                    call(code, other)
                else:
                    check_error(self, Unfit(), call, code, other)
            for call in (pairs_hold, strikes_hold):
                for value in (None, (), (((0,), (0,)),)):
                    if fit:
                        self.assertIs(call(code, other, value), False)
                    else:
                        check_error(self, Unfit(), call, code, other, value)

    def test_by_name_and_kept(self):
        self.assertEqual(follows(code=SHORT, other=FLAT), (((0, 0), (1, 1)),))
        self.assertEqual(follows(other=FLAT, code=SHORT), (((0, 0), (1, 1)),))
        self.assertEqual(strikes(other=TALL, code=FLAT), (((1, 1), (0,), 1),))
        self.assertIs(never_weaker(other=FLAT, code=SHORT), False)
        for call in ALL:
            check_kept(self, call, FLAT, TALL)
            check_kept(self, call, FLAT, ((1,), (1, 0)))


class PairsHold(unittest.TestCase):
    def test_by_the_definition(self):
        pick = random.Random(1)
        held = 0
        for code, other in reference.like_codes():
            pairs, kept = reference.all_pairs(code, other), follows(code, other)
            empty = ((0,) * len(code[0]), (0,) * len(other[0]))
            self.assertIs(pairs_hold(code, other, kept), empty in kept)
            for many in (1, 2, 3):
                lot = set(kept)
                for pair in pick.sample(pairs, min(many, len(pairs))):
                    lot ^= {pair}
                expected = empty in lot and reference.is_closed(code, other, lot)
                self.assertIs(pairs_hold(code, other, tuple(sorted(lot))), expected)
                held += expected
        self.assertGreater(held, 20)

    def test_all_lots_of_small_codes(self):
        for code, other in ((FLAT, TALL), (TALL, FLAT), (TALL, TALL), (FLAT, SHORT), (SHORT, TALL)):
            pairs = reference.all_pairs(code, other)
            for lot in itertools.product((False, True), repeat=len(pairs)):
                chosen = tuple(pair for pair, into in zip(pairs, lot) if into)
                expected = pairs[0] in chosen and reference.is_closed(code, other, chosen)
                self.assertIs(pairs_hold(code, other, chosen), expected)

    def test_not_ascending(self):
        few = (((0, 0), (0,)), ((0, 1), (1,)), ((1, 1), (2,)))
        for row in itertools.permutations(few):
            self.assertIs(pairs_hold(FLAT, TALL, row), row == few)
        for at in range(3):
            self.assertIs(pairs_hold(FLAT, TALL, few[:at] + few[at:at + 1] + few[at:]), False)

    def test_what_are_no_pairs(self):
        few = (((0, 0), (0,)), ((0, 1), (1,)), ((1, 1), (2,)))
        self.assertIs(pairs_hold(FLAT, TALL, few), True)
        for other in (((0, 1), (2,)), ((0, 1), (3,)), ((0, 2), (1,)), ((0, 1), (1,), 1), ((0, 1),), [(0, 1), (1,)],
                      ([0, 1], (1,)), ((0, 1), [1]), ((0, 1), 1), ((0, True), (1,)), ((0, 1), (True,)), ((False, 1), (1,)),
                      None, 0, "ab", {}, ((0, 1), None), (None, (1,)), ("01", "1"), ((), ()), ((0, 1, 0), (1,))):
            self.assertIs(pairs_hold(FLAT, TALL, few[:1] + (other,) + few[2:]), False)
            self.assertIs(pairs_hold(FLAT, TALL, few + (other,)), False)
            self.assertIs(pairs_hold(FLAT, TALL, (other,) + few), False)
        # Nothing can be written from (2,), so it would do no harm, but its label is another one.
        self.assertIs(pairs_hold(FLAT, TALL, few[:2] + (((0, 1), (2,)),) + few[2:]), False)
        self.assertIs(pairs_hold(FLAT, TALL, few[:2] + (((1, 0), (1,)),) + few[2:]), True)
        # Two states without a label are no pair.
        self.assertIs(pairs_hold(SHORT, SHORT, (((0, 0), (0, 0)), ((0, 1), (0, 1)), ((0, 1), (1, 0)))), True)
        self.assertIs(
            pairs_hold(SHORT, SHORT, (((0, 0), (0, 0)), ((0, 1), (0, 1)), ((0, 1), (1, 0)), ((1, 1), (1, 1)))), False)

    def test_other_kinds(self):
        few = (((0, 0), (0,)), ((0, 1), (1,)), ((1, 1), (2,)))
        for value in ODD_VALUES + [list(few), dict(few), (few,), strikes(FLAT, TALL), (few[0], few[1:]), str(few)]:
            self.assertIs(pairs_hold(FLAT, TALL, value), False)
            check_kept(self, pairs_hold, FLAT, TALL, value)

    def test_by_name(self):
        few = (((0, 0), (0,)), ((0, 1), (1,)), ((1, 1), (2,)))
        self.assertIs(pairs_hold(code=FLAT, other=TALL, value=few), True)
        self.assertIs(pairs_hold(value=few[:2], other=TALL, code=FLAT), False)


class StrikesHold(unittest.TestCase):
    def test_by_the_definition(self):
        pick = random.Random(2)
        held = 0
        for code, other in reference.like_codes():
            struck = strikes(code, other)
            self.assertIs(strikes_hold(code, other, struck), reference.strikes_fit(code, other, struck))
            for _ in range(4):
                rows = [list(item) for item in struck if pick.random() < 0.9]
                for row in rows:
                    row[2] += pick.choice([0, 0, 0, 0, 1, 5, -1])
                value = tuple(tuple(row) for row in rows)
                expected = reference.strikes_fit(code, other, value)
                self.assertIs(strikes_hold(code, other, value), expected, (code, other, value))
                held += expected
        self.assertGreater(held, 20)

    def test_pairs_that_are_never_struck(self):
        for code, other in list(reference.like_codes())[::3]:
            struck, kept = strikes(code, other), follows(code, other)
            for pair in kept[:3]:
                for many in (1, 2, 99):
                    value = tuple(sorted(struck + (pair + (many,),)))
                    self.assertIs(strikes_hold(code, other, value), False)

    def test_other_rounds(self):
        struck = strikes(SHORT, FLAT)
        for factor, shift in ((1, 0), (7, 0), (1, 1), (10 ** 300, 3), (2, 10 ** 399)):
            value = tuple(item[:2] + (item[2] * factor + shift,) for item in struck)
            self.assertIs(strikes_hold(SHORT, FLAT, value), True)
        for other in (0, -1, 1, True, None, "2", (2,), [2], {}):
            self.assertIs(strikes_hold(SHORT, FLAT, struck[:0] + ((EMPTY + (other,)),) + struck[1:]), False)
        # A round must be less, not only as great.
        table = ((EMPTY + (2,)), ((0, 1), (0, 1), 1), ((1, 0), (0, 1), 1))
        self.assertIs(strikes_hold(SHORT, FLAT, table), True)
        self.assertIs(strikes_hold(SHORT, FLAT, ((EMPTY + (2,)), ((0, 1), (0, 1), 1), ((1, 0), (0, 1), 2))), False)

    def test_true_is_not_one(self):
        table = ((EMPTY + (2,)), ((0, 1), (0, 1), True), ((1, 0), (0, 1), 1))
        self.assertIs(strikes_hold(SHORT, FLAT, table), False)
        table = ((EMPTY + (2,)), ((0, True), (0, 1), 1), ((1, 0), (0, 1), 1))
        self.assertIs(strikes_hold(SHORT, FLAT, table), False)

    def test_a_pair_that_stands_twice(self):
        struck = strikes(SHORT, FLAT)
        for at in range(len(struck)):
            twice = struck[:at + 1] + ((struck[at][:2] + (struck[at][2] + 1,)),) + struck[at + 1:]
            self.assertIs(strikes_hold(SHORT, FLAT, twice), False)
            self.assertIs(strikes_hold(SHORT, FLAT, struck[:at + 1] + struck[at:]), False)

    def test_not_ascending(self):
        table = ((EMPTY + (7,)), ((0, 1), (0, 1), 1), ((1, 0), (0, 1), 4))
        for row in itertools.permutations(table):
            self.assertIs(strikes_hold(SHORT, FLAT, row), row == table)

    def test_what_are_no_triples(self):
        table = ((EMPTY + (7,)), ((0, 1), (0, 1), 1), ((1, 0), (0, 1), 4))
        for item in (((1, 0), (0, 1)), ((1, 0), (0, 1), 4, 4), [(1, 0), (0, 1), 4], ([1, 0], (0, 1), 4), None, 4, "abc",
                     ((1, 0), (0, 2), 4), ((1, 0), (1, 1), 4), ((1, 1), (0, 1), 4), ((1, 0), None, 4), ((1,), (0, 1), 4)):
            self.assertIs(strikes_hold(SHORT, FLAT, table[:2] + (item,)), False)
            self.assertIs(strikes_hold(SHORT, FLAT, table + (item,)), False)
        # It would be struck at once, but its labels are unlike; and so would be one without labels.
        self.assertIs(strikes_hold(SHORT, FLAT, table[:1] + (((0, 1), (0, 0), 1),) + table[1:]), False)
        self.assertIs(strikes_hold(SHORT, FLAT, table + (((1, 1), (0, 0), 1),)), False)
        self.assertIs(strikes_hold(SHORT, FLAT, table + (((1, 0), (1, 0), 1),)), True)
        for value in ODD_VALUES + [list(table), (table,), follows(SHORT, FLAT), table[1:], table[:2], str(table)]:
            self.assertIs(strikes_hold(SHORT, FLAT, value), False)
            check_kept(self, strikes_hold, SHORT, FLAT, value)

    def test_by_name(self):
        table = ((EMPTY + (7,)), ((0, 1), (0, 1), 1), ((1, 0), (0, 1), 4))
        self.assertIs(strikes_hold(code=SHORT, other=FLAT, value=table), True)
        self.assertIs(strikes_hold(value=table[:2], other=FLAT, code=SHORT), False)


class WhatHolds(unittest.TestCase):
    """[D8]."""

    def test_one_of_both(self):
        for code, other in reference.like_codes():
            kept, struck = follows(code, other), tuple(item[:2] for item in strikes(code, other))
            self.assertEqual(sorted(kept + struck), reference.all_pairs(code, other))
            empty = ((0,) * len(code[0]), (0,) * len(other[0]))
            self.assertIs(never_weaker(code, other), empty in kept)
            self.assertIs(never_weaker(code, other), empty not in struck)
            self.assertIs(pairs_hold(code, other, kept), empty in kept)
            self.assertIs(strikes_hold(code, other, strikes(code, other)), empty in struck)

    def test_never_weaker_than_itself(self):
        for code in list(reference.small_codes())[::5] + reference.GREAT[3:]:
            self.assertIs(never_weaker(code, code), True)
            kept = dict.fromkeys(follows(code, code))
            for state, name in reference.table(code).items():
                self.assertIs((state, state) in kept, name is not None)

    def test_never_weaker_goes_on(self):
        codes = [code for code in reference.some_codes((2, 1), [0, 1], 8, 1) + reference.some_codes((3,), [0, 1], 8, 2)
                 + reference.some_codes((1, 1, 1), [0, 1], 8, 3) + [FLAT, TALL, SHORT] if code[1][0] == 0]
        weaker = {(one, other): never_weaker(one, other) for one in codes for other in codes}
        gone = 0
        for one, two, three in itertools.product(codes, repeat=3):
            if weaker[one, two] and weaker[two, three]:
                self.assertTrue(weaker[one, three])
                gone += one != two != three
        self.assertGreater(gone, 50)

    def test_no_lesser_strength(self):
        for code, other in reference.like_codes():
            for s, t in follows(code, other):
                self.assertGreaterEqual(strength(code, s), strength(other, t))
            if never_weaker(code, other):
                self.assertGreaterEqual(strengths(code)[0], strengths(other)[0])

    def test_stronger_and_yet_not_never_weaker(self):
        some = [(one, two) for one, two in reference.like_codes()
                if strengths(one)[0] > strengths(two)[0] and not never_weaker(one, two)]
        self.assertTrue(some)


if __name__ == "__main__":
    unittest.main()
