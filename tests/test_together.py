"""[K1] to [K7]: codes put together of other codes."""

import random
import unittest

import reference
from onlyhigher.codes import code_error, values_of
from onlyhigher.errors import Unfit
from onlyhigher.kinds import kind_strengths
from onlyhigher.strengths import strengths
from onlyhigher.together import behind, beside, first_strength, inside, lifted
from samples import check_error, check_kept, same

ONCE, PARITY = ((1,), (0, 1)), ((1, 1), (0, 1, 1, 0))
LINE = ((7,), (0, 1, 2, 3, 4, 5, 6, 7))


def items(value):
    return value if isinstance(value, tuple) else (value,)


def from_table(card, reads):
    """The code of the card that labels each state with what reads tells of it."""
    return card, tuple(reads(state) for state in reference.levels(card))


def brute_beside(code, other):
    """[K2], for codes that fit."""
    many, own, names = len(code[0]), reference.table(code), reference.table(other)

    def reads(state):
        first, second = own[state[:many]], names[state[many:]]
        return None if None in (first, second) else items(first) + items(second)

    return from_table(code[0] + other[0], reads)


def brute_behind(code, other):
    """[K3], for codes that fit."""
    many, own, names = len(code[0]), reference.table(code), reference.table(other)
    return from_table(
        code[0] + other[0], lambda state: names[state[many:]] if any(state[many:]) else own[state[:many]])


def brute_inside(code, outer):
    """[K4], for codes that fit."""
    many, own, names = len(code[0]), reference.table(code), reference.table(outer)

    def reads(state):
        found = tuple(own[state[at:at + many]] for at in range(0, len(state), many))
        return None if None in found else names[found]

    return from_table(code[0] * len(outer[0]), reads)


def brute_lifted(code, card):
    """[K5], for cards that fit."""
    many, names = len(code[0]), reference.table(code)
    return from_table(card, lambda state: None if any(state[many:]) else names.get(state[:many]))


def brute_first(code):
    """[K6]."""
    ranks, names = dict(zip(reference.levels(code[0]), reference.ranks(code))), reference.table(code)
    found = []
    for value in reference.values(code):
        behind_empty = [ranks[state] for state in names if any(state) and names[state] == value]
        found.append(1 + max(behind_empty) if behind_empty else 0)
    return min(found)


def fits_items(code):
    rows = [items(value) for value in reference.values(code)]
    return len({len(row) for row in rows}) == 1 and len(set(rows)) == len(rows)


def size(card):
    return len(reference.levels(card))


def small(names, many, seed, cards=((1,), (2,), (1, 1))):
    """Codes of the cards that have just these values."""
    found = []
    for at, card in enumerate(cards):
        for code in reference.some_codes(card, names, many, seed + at):
            if set(reference.values(code)) == set(names):
                found.append(code)
    return found


def pairs_beside():
    pools = small([0, 1], 8, 1) + small(["a", (0, 1)], 4, 2) + small([(0, 1), (1, 0)], 8, 3) + small([5, (5,)], 4, 4)
    pools += small([(0,), "b", 3], 6, 5) + small([(0, 0, 0), (0, 0, 1), ("a", 0, 0)], 4, 6) + small([(1,), (2,)], 6, 7)
    pools += small([(0, 0, 0, 0), (0, 0, 1, 0)], 2, 8) + small([0, (0, 0)], 2, 9)
    pick = random.Random(1)
    for code in pools:
        for other in pick.sample(pools, 6):
            yield code, other


def check_code(case, found, expected):
    case.assertTrue(same(found, expected), (found, expected))
    case.assertIsNone(code_error(found))


class Beside(unittest.TestCase):
    def test_by_the_definition(self):
        seen = {True: 0, False: 0}
        for code, other in pairs_beside():
            many = [len(items(reference.values(one)[0])) for one in (code, other)]
            right = fits_items(code) and fits_items(other) and sum(many) <= 4
            seen[right] += 1
            if right:
                check_code(self, beside(code, other), brute_beside(code, other))
            else:
                check_error(self, Unfit(), beside, code, other)
        self.assertTrue(seen[True] > 40 and seen[False] > 40, seen)

    def test_items(self):
        one, two, three, four = [((1,), ((0,) * many, (1,) * many)) for many in (1, 2, 3, 4)]
        self.assertEqual(beside(one, three)[1][1], (0, 1, 1, 1))
        self.assertEqual(beside(two, two)[1][2], (1, 1, 0, 0))
        self.assertEqual(beside(three, ONCE)[1][3], (1, 1, 1, 1))
        for code, other in ((two, three), (three, two), (one, four), (four, ONCE), (ONCE, four), (four, four)):
            check_error(self, Unfit(), beside, code, other)

    def test_unlike_numbers_and_same_items(self):
        for code in (((1,), (0, (0, 1))), ((1,), (0, (0,))), ((2,), (0, "a", ("a",))), ((1,), ((0,), (0, 0))), ((2,), ((5,), 0, 5))):
            check_error(self, Unfit(), beside, code, ONCE)
            check_error(self, Unfit(), beside, ONCE, code)
        check_code(self, beside(((1,), (0, (1,))), ONCE), ((1, 1), ((0, 0), (0, 1), (1, 0), (1, 1))))

    def test_cells(self):
        three = ((1, 1, 1), (0, 1) * 4)
        four = ((1, 1, 1, 1), (0, 1) * 8)
        self.assertEqual(beside(three, three), brute_beside(three, three))
        self.assertEqual(len(beside(three, three)[0]), 6)
        check_error(self, Unfit(), beside, three, four)
        check_error(self, Unfit(), beside, four, three)

    def test_states(self):
        square, cube = ((7, 7), (0, 1) * 32), ((7, 7, 7), (0, 1) * 256)
        full = beside(square, ((7,), (0, 1) * 4))
        self.assertEqual(len(full[1]), 512)
        self.assertEqual(full, brute_beside(square, ((7,), (0, 1) * 4)))
        check_error(self, Unfit(), beside, cube, ONCE)
        check_error(self, Unfit(), beside, ONCE, cube)
        # 513 states: (2, 2) has 9 and (2, 2, 6) 63; 27 times 19 can't be made, so 9 times 63 it is.
        check_error(self, Unfit(), beside, ((2, 2), (0, 1, 0) * 3), ((2, 2, 6), (0, 1, 1) * 21))
        self.assertEqual(len(beside(((2, 2), (0, 1, 0) * 3), ((6, 7), (0, 1) * 28))[1]), 504)

    def test_values(self):
        full = beside(LINE, LINE)
        self.assertEqual(len(values_of(full)), 64)
        self.assertEqual(full, brute_beside(LINE, LINE))
        nine = ((2, 2), tuple(range(9)))
        check_error(self, Unfit(), beside, LINE, nine)
        check_error(self, Unfit(), beside, nine, LINE)
        self.assertEqual(len(values_of(beside(((2, 2), tuple(range(9))), ((6,), tuple(range(7)))))), 63)

    def test_by_name_and_kept(self):
        self.assertEqual(beside(code=ONCE, other=PARITY)[0], (1, 1, 1))
        self.assertEqual(beside(other=ONCE, code=((2,), ("a", "b", "a")))[1][:2], (("a", 0), ("a", 1)))
        check_kept(self, beside, ONCE, PARITY)


class Behind(unittest.TestCase):
    def test_by_the_definition(self):
        for names in ([0, 1], ["a", (3,), 2], [0, (0,)]):
            pool = small(names, 12, 5)
            for at, code in enumerate(pool):
                for other in pool[at % 3::3]:
                    check_code(self, behind(code, other), brute_behind(code, other))

    def test_values_that_are_not_the_same(self):
        for other in (((1,), (0, 2)), ((1,), ("a", "b")), ((2,), (0, 1, 2)), ((1,), (0, (1,))), ((1,), ((0,), (1,)))):
            check_error(self, Unfit(), behind, ONCE, other)
            check_error(self, Unfit(), behind, other, ONCE)
        # The empty states may read unlike values.
        self.assertEqual(behind(ONCE, ((1,), (1, 0))), ((1, 1), (0, 0, 1, 0)))

    def test_cells_and_states(self):
        three, four = ((1, 1, 1), (0, 1) * 4), ((1, 1, 1, 1), (0, 1) * 8)
        self.assertEqual(behind(three, three), brute_behind(three, three))
        check_error(self, Unfit(), behind, three, four)
        square, cube = ((7, 7), (0, 1) * 32), ((7, 7, 7), (0, 1) * 256)
        self.assertEqual(len(behind(square, ((7,), (0, 1) * 4))[1]), 512)
        check_error(self, Unfit(), behind, cube, ONCE)
        check_error(self, Unfit(), behind, ONCE, cube)
        check_error(self, Unfit(), behind, ((2, 2), (0, 1, 0) * 3), ((2, 2, 6), (0, 1, 1) * 21))

    def test_many_values(self):
        square = ((7, 7), tuple(range(64)))
        check_error(self, Unfit(), behind, square, square)
        eight = ((7,), tuple(range(8)))
        self.assertEqual(behind(eight, ((7, 7), tuple(at % 8 for at in range(64)))), brute_behind(
            eight, ((7, 7), tuple(at % 8 for at in range(64)))))

    def test_by_name_and_kept(self):
        self.assertEqual(behind(code=ONCE, other=PARITY), ((1, 1, 1), (0, 1, 1, 0, 1, 1, 1, 0)))
        self.assertEqual(behind(other=ONCE, code=PARITY), ((1, 1, 1), (0, 1, 1, 1, 1, 1, 0, 1)))
        check_kept(self, behind, ONCE, PARITY)


class Inside(unittest.TestCase):
    def test_by_the_definition(self):
        for many, cards in ((2, ((1,), (2,), (1, 1), (1, 2))), (3, ((2,), (3,), (1, 1)))):
            codes = [code for code in small(list(range(many)), 12, 7, cards) if code[1][0] == 0]
            for card in [(many - 1,) * cells for cells in (1, 2, 3)]:
                for outer in reference.some_codes(card, ["a", (0,), 7], 4, 3):
                    for code in codes:
                        if len(code[0]) * len(card) <= 6 and size(code[0]) ** len(card) <= 512:
                            check_code(self, inside(code, outer), brute_inside(code, outer))

    def test_what_does_not_fit(self):
        for outer in (((2,), (0, 1, 0)), ((1, 2), (0, 1, 0, 1, 0, 1)), ((2, 1), (0, 1, 0, 1, 0, 1)), ((2, 2), (0, 1, 0) * 3)):
            check_error(self, Unfit(), inside, ONCE, outer)
        for code in (((1,), (1, 0)), ((2,), (0, 1, 2)), ((1,), (0, 2)), ((1,), (0, "a")), ((1,), (0, (1,))), ((2,), (0, 1, "a")),
                     ((1,), (1, 2)), ((1, 1), (1, 0, 0, 1)), ((1,), ((0,), (1,)))):
            check_error(self, Unfit(), inside, code, PARITY)
        check_code(self, inside(((3,), (0, 2, None, 1)), ((2,), ("a", "b", "c"))), ((3,), ("a", "c", None, "b")))
        check_error(self, Unfit(), inside, ((3,), (0, 2, None, 0)), ((2,), ("a", "b", "c")))
        check_error(self, Unfit(), inside, ((3,), (0, 2, 3, 1)), ((2,), ("a", "b", "c")))

    def test_cells_and_states(self):
        three = ((1, 1, 1), (0, 1) * 4)
        self.assertEqual(inside(PARITY, three), brute_inside(PARITY, three))
        self.assertEqual(inside(three, PARITY)[0], (1,) * 6)
        check_error(self, Unfit(), inside, PARITY, ((1, 1, 1, 1), (0, 1) * 8))
        check_error(self, Unfit(), inside, three, three)
        seven = ((7,), (0, 1) * 4)
        self.assertEqual(inside(seven, three), brute_inside(seven, three))
        self.assertEqual(len(inside(seven, three)[1]), 512)
        check_error(self, Unfit(), inside, seven, ((1, 1, 1, 1), (0, 1) * 8))
        check_error(self, Unfit(), inside, ((2, 7), (0, 1) * 12), PARITY)

    def test_many_values(self):
        outer = ((7, 7), tuple(range(64)))
        self.assertEqual(inside(LINE, outer), outer)
        turned = inside(((7,), (0, 7, 6, 5, 4, 3, 2, 1)), outer)
        self.assertEqual(turned, brute_inside(((7,), (0, 7, 6, 5, 4, 3, 2, 1)), outer))

    def test_by_name_and_kept(self):
        self.assertEqual(inside(code=PARITY, outer=ONCE), PARITY)
        self.assertEqual(inside(outer=PARITY, code=ONCE), PARITY)
        check_kept(self, inside, PARITY, PARITY)


class Lifted(unittest.TestCase):
    CARDS = [(1,), (2,), (3,), (1, 1), (2, 1), (1, 2), (2, 2), (1, 1, 1), (2, 1, 2), (3, 1), (7, 1, 1), (1, 1, 1, 1, 1, 1)]

    def test_by_the_definition(self):
        for code in list(reference.small_codes())[::5]:
            for card in self.CARDS:
                if len(card) >= len(code[0]) and all(low <= high for low, high in zip(code[0], card)):
                    check_code(self, lifted(code, card), brute_lifted(code, card))
                else:
                    check_error(self, Unfit(), lifted, code, card)

    def test_to_its_own_card(self):
        for code in [PARITY, LINE] + reference.GREAT:
            self.assertEqual(lifted(code, code[0]), code)

    def test_edges(self):
        self.assertEqual(lifted(PARITY, (1, 1, 1)), ((1, 1, 1), (0, None, 1, None, 1, None, 0, None)))
        self.assertEqual(lifted(PARITY, (1, 2)), ((1, 2), (0, 1, None, 1, 0, None)))
        for card in ((1,), (7,), (7, 7, 7)[:1]):
            check_error(self, Unfit(), lifted, PARITY, card)
        for card in ((1, 2), (2, 1), (1, 1, 7)):
            check_error(self, Unfit(), lifted, ((2, 2), (0, 1, 0) * 3), card)

    def test_great_cards(self):
        for card in ((7, 7, 7), (7, 1, 1, 1, 1, 7), (1, 1, 7, 7)):
            self.assertEqual(lifted(PARITY, card), brute_lifted(PARITY, card))
        self.assertEqual(lifted(((7, 7), tuple(range(64))), (7, 7, 7)), brute_lifted(((7, 7), tuple(range(64))), (7, 7, 7)))

    def test_by_name_and_kept(self):
        self.assertEqual(lifted(code=ONCE, card=(2,)), ((2,), (0, 1, None)))
        self.assertEqual(lifted(card=(1, 1), code=ONCE), ((1, 1), (0, None, 1, None)))
        check_kept(self, lifted, PARITY, (2, 2, 2))


class FirstStrength(unittest.TestCase):
    def test_by_the_definition(self):
        seen = set()
        for code in list(reference.small_codes()) + reference.some_codes((3, 3), [0, 1], 10, 3, blanks=0):
            found = first_strength(code)
            seen.add(found)
            self.assertTrue(same(found, brute_first(code)), code)
        self.assertTrue({0, 1, 2, 3} <= seen)

    def test_values_of_the_empty_state_alone(self):
        self.assertEqual(first_strength(((3,), (0, 1, 2, 1))), 0)
        self.assertEqual(first_strength(((3,), (0, 1, 0, 1))), 2)
        self.assertEqual(first_strength(((3,), (0, 1, 0, None))), 1)

    def test_great_codes(self):
        for code in reference.GREAT:
            ranks, best = strengths(code), {}
            for name, rank in list(zip(code[1], ranks))[1:]:
                if name is not None:
                    best[name] = max(rank, best.get(name, 0))
            expected = min(1 + best.get(value, -1) for value in reference.values(code))
            self.assertEqual(first_strength(code), expected)

    def test_by_name_and_kept(self):
        self.assertEqual(first_strength(code=PARITY), 1)
        check_kept(self, first_strength, PARITY)


class WhatHolds(unittest.TestCase):
    """[K7]."""

    def test_beside(self):
        seen = []
        for code, other in pairs_beside():
            many = [len(items(reference.values(one)[0])) for one in (code, other)]
            if fits_items(code) and fits_items(other) and sum(many) <= 4:
                both = beside(code, other)
                self.assertEqual(strengths(both), tuple(
                    None if None in (first, second) else min(first, second)
                    for first in strengths(code) for second in strengths(other)))
                rows = [[isinstance(name, tuple) for name in reference.values(one)] for one in (code, other)]
                # With all plain values a code takes its strength, with tuples alone that by "name".
                if all(all(row) or not any(row) for row in rows):
                    seen.append(rows)
                    own, further = [
                        kind_strengths(one, "name") if all(row) else strengths(one)
                        for one, row in zip((code, other), rows)]
                    self.assertEqual(kind_strengths(both, "name"), tuple(
                        None if None in (first, second) else min(first, second) for first in own for second in further))
        self.assertGreater(len(seen), 30)

    def test_behind(self):
        seen = set()
        for names in ([0, 1], ["a", "b", "c"]):
            pool = small(names, 14, 5, ((1,), (2,), (1, 1), (3,), (2, 1)))
            for at, code in enumerate(pool):
                for other in pool[at % 3::3]:
                    if size(code[0]) * size(other[0]) <= 512:
                        both, least = strengths(behind(code, other))[0], strengths(code)[0] + first_strength(other)
                        self.assertGreaterEqual(both, least)
                        seen.add(both - least)
        self.assertIn(0, seen)

    def test_inside(self):
        for top in range(1, 8):
            code = ((top,), tuple(range(top + 1)))
            for cells in (1, 2, 3):
                if (top + 1) ** cells <= 512:
                    for outer in reference.some_codes((top,) * cells, [0, "b", (2,)], 5, top):
                        self.assertEqual(inside(code, outer), outer)

    def test_lifted(self):
        for code in list(reference.small_codes())[::9]:
            for card in Lifted.CARDS:
                if len(card) >= len(code[0]) and all(low <= high for low, high in zip(code[0], card)):
                    found = lifted(code, card)
                    ranks = dict(zip(reference.levels(card), strengths(found)))
                    for state, rank in zip(reference.levels(code[0]), strengths(code)):
                        self.assertEqual(ranks[state + (0,) * (len(card) - len(code[0]))], rank)


if __name__ == "__main__":
    unittest.main()
