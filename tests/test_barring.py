"""[C9] and [C10]: bars."""

import itertools
import random
import unittest

import reference
from onlyhigher.barring import bar, bar_holds
from onlyhigher.groups import span
from onlyhigher.sums import makes
from samples import ODD_VALUES, check_kept, same

MARKS = ((1,), (2,), (3,))


def members(group):
    return list(itertools.product(*[range(modulus) for modulus in group]))


def questions(seed, many):
    """Groups, marks, rooms and elements other than the zero."""
    for card, group, marks in reference.some_sums(seed, many):
        for left in reference.levels(card):
            for member in members(group)[1:]:
                yield group, marks, left, member


def brute_rows(group, marks, left):
    rows = []
    for at in range(len(marks)):
        ahead = left[:at + 1] + (0,) * (len(marks) - at - 1)
        sums = {reference.brute_sum(group, marks, counts) for counts in reference.brute_counts(ahead)}
        rows.append(tuple(sorted(sums | {(0,) * len(group)})))
    return tuple(rows)


def brute_bar(group, marks, left, member):
    if any(reference.brute_sum(group, marks, counts) == member for counts in reference.brute_counts(left)):
        return None
    for character in members(group):
        if reference.bars(group, marks, left, member, ("character", character)):
            return ("character", character)
    return ("sums", brute_rows(group, marks, left))


class Bar(unittest.TestCase):
    def test_by_the_definition(self):
        kinds = []
        for question in questions(1, 25):
            found = bar(*question)
            self.assertTrue(same(found, brute_bar(*question)), question)
            kinds.append(found and found[0])
            if found is not None:
                self.assertIs(bar_holds(*question, found), True)
        for kind in (None, "character", "sums"):
            self.assertGreater(kinds.count(kind), 20)

    def test_rooms_of_noughts(self):
        for group in ((2,), (4,), (2, 3), (2, 2, 2)):
            for member in members(group)[1:]:
                found = bar(group, (member, member), (0, 0), member)
                self.assertEqual(found[0], "character")
                self.assertTrue(same(found, brute_bar(group, (member, member), (0, 0), member)))

    def test_the_least_character(self):
        self.assertEqual(bar((6,), ((2,),), (1,), (3,)), ("character", (3,)))
        self.assertEqual(bar((2, 2), ((1, 0),), (1,), (0, 1)), ("character", (0, 1)))
        self.assertEqual(bar((2, 2), ((1, 1),), (1,), (0, 1)), ("character", (1, 1)))
        self.assertEqual(bar((8,), ((4,),), (3,), (1,)), ("character", (2,)))

    def test_great_groups(self):
        pick = random.Random(2)
        for group, card in [((64,), (7, 7, 7)), ((4, 4, 4), (1, 1, 1, 3, 3, 3)), ((2, 32), (7, 7, 7)), ((63,), (3, 3))]:
            for _ in range(4):
                marks = tuple(pick.choice(members(group)) for _ in card)
                left = pick.choice([card, tuple(top // 2 for top in card), (0,) * (len(card) - 1) + card[-1:]])
                for member in pick.sample(members(group)[1:], 3):
                    found = bar(group, marks, left, member)
                    self.assertTrue(same(found, brute_bar(group, marks, left, member)))
                    self.assertIs(bar_holds(group, marks, left, member, found), found is not None)
        found = bar((64,), ((1,), (1,)), (7, 7), (15,))
        self.assertEqual(found, ("sums", (tuple((at,) for at in range(8)), tuple((at,) for at in range(15)))))
        self.assertIs(bar_holds((64,), ((1,), (1,)), (7, 7), (15,), found), True)

    def test_by_name_and_kept(self):
        self.assertEqual(bar(group=(4,), marks=MARKS, room=(0, 1, 0), member=(1,)), ("character", (2,)))
        self.assertIsNone(bar((4,), MARKS, member=(2,), room=(0, 1, 0)))
        check_kept(self, bar, (4,), MARKS, (1, 0, 1), (2,))
        check_kept(self, bar, (4,), MARKS, (0, 1, 0), (1,))


class BarHolds(unittest.TestCase):
    def check(self, question, value):
        self.assertIs(bar_holds(*question, value), reference.bars(*question, value), (question, value))

    def test_characters(self):
        for question in list(questions(2, 12))[::2]:
            for character in members(question[0]):
                self.check(question, ("character", character))

    def test_changed_rows(self):
        pick = random.Random(3)
        held = 0
        for question in list(questions(3, 25))[::3]:
            group, marks, left, _ = question
            rows = brute_rows(group, marks, left)
            self.check(question, ("sums", rows))
            for _ in range(8):
                at = pick.randrange(len(rows))
                row = list(rows[at])
                if pick.random() < 0.5:
                    row = sorted(set(row + [pick.choice(members(group))]))
                else:
                    row.remove(pick.choice(row))
                value = ("sums", rows[:at] + (tuple(row),) + rows[at + 1:])
                self.check(question, value)
                held += bar_holds(*question, value)
        self.assertGreater(held, 20)

    def test_greater_rows_may_stand(self):
        question = ((4,), ((2,),) * 2, (1, 0), (1,))
        wide = ((0,), (2,))
        self.assertIs(bar_holds(*question, ("sums", (wide, wide))), True)
        self.assertIs(bar_holds(*question, ("sums", (wide, ((0,), (2,), (3,))))), True)
        self.assertIs(bar_holds(*question, ("sums", (((0,), (2,), (3,)), wide))), False)
        self.assertIs(bar_holds(*question, ("sums", (wide, ((0,), (1,), (2,))))), False)
        # An element that must not be there may stand in the rows ahead, if it is kept behind.
        question = ((4,), ((2,),), (1,), (1,))
        self.assertIs(bar_holds(*question, ("sums", (((0,), (2,), (3,)),))), True)

    def test_rows_that_lack_something(self):
        question = ((4,), MARKS, (1, 0, 1), (2,))
        rows = brute_rows(*question[:3])
        self.assertIs(bar_holds(*question, ("sums", rows)), True)
        for at, row in enumerate(rows):
            for item in range(len(row)):
                shorter = row[:item] + row[item + 1:]
                self.assertIs(bar_holds(*question, ("sums", rows[:at] + (shorter,) + rows[at + 1:])), False)
        for kind in ("sum", "Sums", "character", None, 1, ["sums"], ("sums",)):
            self.assertIs(bar_holds(*question, (kind, rows)), False)
        for value in (rows[:2], rows[1:], rows + rows[-1:], rows[:2] + ((),), ((),) * 3, ()):
            self.assertIs(bar_holds(*question, ("sums", value)), False)

    def test_rows_that_are_no_ascending_tuples(self):
        question = ((4,), MARKS, (1, 0, 1), (2,))
        rows = brute_rows(*question[:3])
        for at, row in enumerate(rows):
            for other in (row[::-1], row + row[-1:], row[:1] + row, list(row), dict.fromkeys(row), None, 0, "ab", (row,),
                          row + ((4,),), row + (3,), row + ((3, 0),), row + ((-1,),), row + ([3],), row + (("3",),)):
                value = ("sums", rows[:at] + (other,) + rows[at + 1:])
                self.check(question, value)
                self.assertIs(bar_holds(*question, value), False)
        self.assertIs(bar_holds(*question, ("sums", list(rows))), False)
        self.assertIs(bar_holds(*question, ("sums", rows[:1] + (((0,), (True,)),) + rows[2:])), False)
        self.assertIs(bar_holds(*question, ("sums", (((False,), (1,)),) + rows[1:])), False)

    def test_other_kinds(self):
        question = ((4,), MARKS, (0, 1, 0), (1,))
        for value in ODD_VALUES + ["character", ("character",), ("character", (2,), ()), ["character", (2,)], ((2,), "sums"),
                                   ("Character", (2,)), (None, (2,)), ("sum", ()), (["character"], (2,)), ({}, (2,))]:
            self.assertIs(bar_holds(*question, value), False)
            check_kept(self, bar_holds, *question, value)
        for item in ODD_VALUES + [2, [2], "2", (2, 0), (4,), (-2,), (True,), ((2,),), {0: 2}]:
            self.assertIs(bar_holds(*question, ("character", item)), False)
            self.assertIs(bar_holds(*question, ("sums", item)), False)
        self.assertIs(bar_holds((2,), ((0,),), (1,), (1,), ("character", (1,))), True)
        self.assertIs(bar_holds((2,), ((0,),), (1,), (1,), ("character", (True,))), False)

    def test_cells_without_room_do_not_count(self):
        self.assertIs(bar_holds((4,), MARKS, (0, 1, 0), (1,), ("character", (2,))), True)
        self.assertIs(bar_holds((4,), MARKS, (0, 1, 1), (1,), ("character", (2,))), False)

    def test_by_name(self):
        self.assertIs(bar_holds(group=(4,), marks=MARKS, room=(0, 1, 0), member=(1,), value=("character", (2,))), True)
        self.assertIs(bar_holds((4,), MARKS, value=None, member=(1,), room=(0, 1, 0)), False)


class WhatHolds(unittest.TestCase):
    """[C10]."""

    def test_a_bar_where_the_room_does_not_make_it(self):
        for group, marks, left, member in questions(4, 40):
            found = bar(group, marks, left, member)
            self.assertIs(found is None, member in makes(group, marks, left))
            roomy = tuple(mark for mark, rest in zip(marks, left) if rest >= 1)
            by_character = found is not None and found[0] == "character"
            self.assertIs(by_character, member not in span(group, roomy))
            if found is None:
                self.assertFalse(bar_holds(group, marks, left, member, ("sums", brute_rows(group, marks, left))))


if __name__ == "__main__":
    unittest.main()
