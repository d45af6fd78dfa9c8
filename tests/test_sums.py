"""[C5] to [C8]: codes of sums, what a room makes, and room strengths."""

import itertools
import random
import unittest

import reference
from onlyhigher.cards import card_error, room, states
from onlyhigher.codes import code_error
from onlyhigher.errors import BadCard, Unfit
from onlyhigher.strengths import strengths
from onlyhigher.sums import makes, room_strengths, sums_code, ways_to
from samples import ODD_VALUES, check_error, check_kept, same

MARKS = ((1,), (2,), (3,))
GREAT = [
    ((7, 7, 7), (64,), ((1,), (8,), (5,))),
    ((7, 7, 7), (8, 8), ((1, 0), (0, 1), (3, 5))),
    ((1, 1, 1, 3, 3, 3), (4, 4, 4), ((1, 0, 0), (0, 2, 0), (2, 2, 3), (0, 0, 1), (0, 1, 0), (1, 1, 1))),
    ((7, 3, 1, 1, 1, 1), (2, 4, 8), ((0, 0, 1), (0, 1, 0), (1, 0, 0), (1, 1, 1), (0, 2, 4), (1, 3, 7))),
    ((7, 7, 7), (2,), ((1,), (1,), (1,))),
    ((7, 7, 7), (61,), ((1,), (9,), (60,))),
]


def members(group):
    return list(itertools.product(*[range(modulus) for modulus in group]))


def brute_labels(card, group, marks):
    return tuple(reference.brute_sum(group, marks, state) for state in reference.levels(card))


class SumsCode(unittest.TestCase):
    def test_by_the_definition(self):
        fit = 0
        for card, group, marks in list(reference.some_sums(1, 400)) + GREAT:
            labels = brute_labels(card, group, marks)
            if set(labels) == set(members(group)):
                fit += 1
                self.assertTrue(same(sums_code(card, group, marks), (card, labels)))
                self.assertIsNone(code_error((card, labels)))
            else:
                check_error(self, Unfit(), sums_code, card, group, marks)
            check_kept(self, sums_code, card, group, marks)
        self.assertGreater(fit, 50)

    def test_bad_cards(self):
        for card in ODD_VALUES + [[1], (0,), (8,), (1, 0), (1, True), (7, 7, 7, 1), (1,) * 7, (1, "1")]:
            for marks in (MARKS, ((1,),), None):
                check_error(self, BadCard(card_error(card)), sums_code, card, (4,), marks)
            check_kept(self, sums_code, card, (4,), MARKS)

    def test_the_card_is_told_first(self):
        check_error(self, BadCard(("top", 1)), sums_code, (1, 8), (4,), [])
        check_error(self, BadCard("many"), sums_code, (7, 7, 7, 7), (2,), ((1,),) * 4)

    def test_marks_of_other_kinds(self):
        fit = ((1,), (2,), (3,))
        for marks in ODD_VALUES + [list(fit), fit[:2], fit + ((1,),), (fit,), {0: fit}, "123", ((1, 0), (2, 0), (3, 0))]:
            check_error(self, Unfit(), sums_code, (1, 1, 1), (4,), marks)
            check_kept(self, sums_code, (1, 1, 1), (4,), marks)

    def test_marks_that_are_no_elements(self):
        fit = ((1,), (2,), (3,))
        for item in ODD_VALUES + [(4,), (-1,), (True,), ("1",), [1], 1, (1, 0), (), ((1,),), {0: 1}]:
            for place in range(3):
                marks = fit[:place] + (item,) + fit[place + 1:]
                check_error(self, Unfit(), sums_code, (1, 1, 1), (4,), marks)
        for item in ((2, 0), (0, 3), (0,), (0, 1, 0), (False, 1), (0, True)):
            check_error(self, Unfit(), sums_code, (1, 1, 1), (2, 3), ((1, 0), (0, 1), item))

    def test_elements_that_no_state_makes(self):
        check_error(self, Unfit(), sums_code, (7, 7, 7), (64,), ((2,), (4,), (6,)))
        check_error(self, Unfit(), sums_code, (7,), (9,), ((1,),))
        self.assertEqual(sums_code((7,), (8,), ((3,),)), ((7,), tuple((at * 3 % 8,) for at in range(8))))
        check_error(self, Unfit(), sums_code, (1, 1), (2, 2), ((1, 0), (1, 0)))
        self.assertEqual(sums_code((1, 1), (2, 2), ((1, 0), (0, 1)))[1], ((0, 0), (0, 1), (1, 0), (1, 1)))
        check_error(self, Unfit(), sums_code, (3, 3), (2,), ((0,), (0,)))

    def test_by_name(self):
        self.assertEqual(sums_code(card=(1,), group=(2,), marks=((1,),)), ((1,), ((0,), (1,))))
        self.assertEqual(sums_code((1,), marks=((1,),), group=(2,)), ((1,), ((0,), (1,))))


class MakesAndWays(unittest.TestCase):
    def check_room(self, group, marks, left):
        ways = {member: [] for member in members(group)}
        for counts in reference.brute_counts(left):
            ways[reference.brute_sum(group, marks, counts)].append(counts)
        made = tuple(member for member in members(group) if ways[member])
        self.assertTrue(same(makes(group, marks, left), made))
        for member in members(group):
            self.assertTrue(same(ways_to(group, marks, left, member), tuple(ways[member])))

    def test_by_the_definition(self):
        for card, group, marks in reference.some_sums(2, 40):
            for left in reference.levels(card):
                self.check_room(group, marks, left)

    def test_great_rooms(self):
        for card, group, marks in GREAT[:4]:
            pick = random.Random(1)
            for left in (card, pick.choice(reference.levels(card))):
                self.assertTrue(same(makes(group, marks, left), tuple(sorted(
                    {reference.brute_sum(group, marks, counts) for counts in reference.brute_counts(left)}))))
                member = pick.choice(members(group))
                self.assertTrue(same(ways_to(group, marks, left, member), tuple(
                    counts for counts in reference.brute_counts(left)
                    if reference.brute_sum(group, marks, counts) == member)))

    def test_rooms_of_noughts(self):
        for group in ((4,), (2, 3), (2, 2, 2)):
            for marks in ((members(group)[0],), tuple(members(group)[:6])):
                left = (0,) * len(marks)
                self.assertEqual(makes(group, marks, left), ())
                for member in members(group):
                    self.assertEqual(ways_to(group, marks, left, member), ())

    def test_marks_that_are_zero(self):
        self.assertEqual(makes((4,), ((0,),), (1,)), ((0,),))
        self.assertEqual(ways_to((4,), ((0,),), (2,), (0,)), ((1,), (2,)))
        self.assertEqual(ways_to((4,), ((0,), (1,)), (1, 1), (1,)), ((0, 1), (1, 1)))

    def test_rooms_that_make_all(self):
        self.assertEqual(makes((4,), MARKS, (1, 1, 1)), ((0,), (1,), (2,), (3,)))
        self.assertEqual(makes((4,), ((1,),), (3,)), ((1,), (2,), (3,)))
        self.assertEqual(makes((4,), ((1,),), (4,)), ((0,), (1,), (2,), (3,)))
        self.assertEqual(len(makes((64,), ((1,), (8,)), (7, 7))), 63)

    def test_by_name_and_kept(self):
        self.assertEqual(makes(group=(4,), marks=MARKS, room=(0, 1, 0)), ((2,),))
        self.assertEqual(ways_to(group=(4,), marks=MARKS, room=(0, 1, 0), member=(2,)), ((0, 1, 0),))
        self.assertEqual(ways_to((4,), MARKS, member=(3,), room=(1, 1, 0)), ((1, 1, 0),))
        check_kept(self, makes, (4,), MARKS, (1, 0, 1))
        check_kept(self, ways_to, (4,), MARKS, (1, 1, 1), (1,))


class RoomStrengths(unittest.TestCase):
    def test_by_the_definition(self):
        for card, group, marks in reference.some_sums(3, 60):
            expected = tuple(reference.room_strength(group, marks, left) for left in reference.levels(card))
            self.assertTrue(same(room_strengths(card, group, marks), expected), (card, group, marks))

    def test_deeper_rooms(self):
        for card, group, marks in [
                ((5,), (2,), ((1,),)), ((3, 3), (3,), ((1,), (2,))), ((2, 2, 2), (2,), ((1,), (0,), (1,))),
                ((3, 3), (2,), ((1,), (1,))), ((2, 2, 1), (3,), ((1,), (2,), (1,)))]:
            expected = tuple(reference.room_strength(group, marks, left) for left in reference.levels(card))
            self.assertTrue(same(room_strengths(card, group, marks), expected))
            self.assertGreater(max(expected), 1)

    def test_the_order_of_rooms(self):
        self.assertEqual(room_strengths((2, 1), (2,), ((1,), (0,))), (0, 0, 1, 1, 2, 2))
        self.assertEqual(room_strengths((1, 2), (2,), ((0,), (1,))), (0, 1, 2, 0, 1, 2))

    def test_great_cards(self):
        for card, group, marks in GREAT:
            ranks = room_strengths(card, group, marks)
            # The room of the state at a place is the state as far from the end.
            self.assertTrue(reference.fits(sums_code(card, group, marks), ranks[::-1]))

    def test_marks_that_make_no_code(self):
        self.assertEqual(room_strengths((7, 7, 7), (64,), ((2,), (4,), (6,))), (0,) * 512)
        self.assertEqual(room_strengths((1, 1), (2,), ((0,), (0,))), (0,) * 4)

    def test_by_name_and_kept(self):
        self.assertEqual(room_strengths(card=(1,), group=(2,), marks=((1,),)), (0, 1))
        self.assertEqual(room_strengths((1,), marks=((1,),), group=(2,)), (0, 1))
        check_kept(self, room_strengths, (2, 1), (3,), ((1,), (2,)))


class WhatHolds(unittest.TestCase):
    """[C8]."""

    def test_strengths_are_room_strengths(self):
        found = 0
        for card, group, marks in list(reference.some_sums(4, 400)) + GREAT:
            if set(brute_labels(card, group, marks)) == set(members(group)):
                found += 1
                code = sums_code(card, group, marks)
                rooms = dict(zip(states(card), room_strengths(card, group, marks)))
                for state, rank in zip(states(card), strengths(code)):
                    self.assertEqual(rank, rooms[room(card, state)])
        self.assertGreater(found, 50)


if __name__ == "__main__":
    unittest.main()
