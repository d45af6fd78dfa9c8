"""[D6], [D7] and, of these, [D8]: codes led, and codes that are alike."""

import itertools
import random
import unittest

import reference
from onlyhigher.alike import alike, led
from onlyhigher.codes import code_error, values_of
from onlyhigher.compared import never_weaker
from onlyhigher.errors import Unfit
from onlyhigher.strengths import strengths
from samples import check_error, check_kept, same

UNEVEN = ((1, 2), (0, 1, None, 1, None, 0))
FLAT = ((1, 1), (0, 1, 1, 0))
MIXED = ((1, 2), ("up", None, (3, "ab"), "up", 7, (3,)))


def brute_led(code, order, names):
    """[D6]: the state t of the newer code has the label of the elder state s with t's level i at order[i]."""
    card = tuple(code[0][cell] for cell in order)
    labels = []
    for newer in reference.levels(card):
        [name] = [name for elder, name in reference.table(code).items()
                  if all(elder[cell] == level for cell, level in zip(order, newer))]
        labels.append(dict(names).get(name))
    return card, tuple(labels)


def stay(code):
    return tuple((name, name) for name in values_of(code))


def renamed(code, seed):
    """Names for the code with fresh values, one to one."""
    pick = random.Random(seed)
    fresh = pick.sample([0, 1, 2, 999, "a", "zz", (0,), ("a", 7), (1, 2, 3, 4)] + list(range(100, 200)), len(values_of(code)))
    return tuple(zip(values_of(code), fresh))


class Led(unittest.TestCase):
    def test_by_the_definition(self):
        for seed, code in enumerate(list(reference.small_codes())[::4]):
            for order in itertools.permutations(range(len(code[0]))):
                for names in (stay(code), renamed(code, seed)):
                    found = led(code, order, names)
                    self.assertTrue(same(found, brute_led(code, order, names)))
                    self.assertIsNone(code_error(found))

    def test_unlike_tops(self):
        code = ((1, 2, 3), tuple(at if at % 3 else None for at in range(24)))
        code = (code[0], (50,) + code[1][1:])
        for order in itertools.permutations(range(3)):
            self.assertTrue(same(led(code, order, stay(code)), brute_led(code, order, stay(code))))

    def test_values_of_all_kinds(self):
        names = ((7, "seven"), ("up", (7,)), ((3,), 0), ((3, "ab"), "up"))
        self.assertEqual(led(MIXED, (0, 1), names), ((1, 2), ((7,), None, "up", (7,), "seven", 0)))
        self.assertEqual(led(MIXED, (1, 0), names), ((2, 1), ((7,), (7,), None, "seven", "up", 0)))

    def test_great_cards(self):
        for code in reference.GREAT:
            order = tuple(range(len(code[0])))[::-1]
            names = renamed(code, 1)
            there = led(code, order, names)
            back = led(there, order, tuple(sorted(((newer, elder) for elder, newer in names), key=lambda pair: [
                pair[0] for pair in stay(there)].index(pair[0]))))
            self.assertTrue(same(back, code))
            self.assertTrue(same(led(code, order, stay(code)), brute_led(code, order, stay(code))))

    def test_orders_that_do_not_fit(self):
        names = stay(UNEVEN)
        for order in ((), (0,), (1,), (0, 0), (1, 1), (0, 1, 1), (0, 1, 2), (1, 2), (-1, 0), (0, -1), (2, 0), (0, 10 ** 399)):
            check_error(self, Unfit(), led, UNEVEN, order, names)
            check_kept(self, led, UNEVEN, order, names)
        code = ((1,) * 6, (0, 1) * 32)
        for order in ((0, 1, 2, 3, 4), (0, 1, 2, 3, 4, 4), (1, 2, 3, 4, 5, 6), (5, 4, 3, 2, 1, 1)):
            check_error(self, Unfit(), led, code, order, stay(code))
        self.assertEqual(led(code, (5, 4, 3, 2, 1, 0), stay(code))[1], (0,) * 32 + (1,) * 32)

    def test_names_that_do_not_fit(self):
        right = ((7, 1), ("up", 2), ((3,), 3), ((3, "ab"), 4))
        self.assertEqual(led(MIXED, (0, 1), right)[1], (2, None, 4, 2, 1, 3))
        wrong = [(), right[:3], right[1:], right[::-1], right + ((("z",), 5),), ((0, 0),) + right, right + right[3:],
                 right[:1] + right[:1] + right[2:], ((7, 1), ("up", 2), ((3, "ab"), 4), ((3,), 3)), ((8, 1),) + right[1:],
                 right[:3] + (((3, "ac"), 4),), right[:3] + (((3, "ab"), 3),), right[:3] + (((3, "ab"), 1),)]
        for names in wrong:
            check_error(self, Unfit(), led, MIXED, (0, 1), names)
            check_kept(self, led, MIXED, (0, 1), names)

    def test_by_name(self):
        self.assertEqual(led(code=FLAT, order=(1, 0), names=((0, 1), (1, 0))), ((1, 1), (1, 0, 0, 1)))
        self.assertEqual(led(names=((0, 1), (1, 0)), order=(1, 0), code=FLAT), ((1, 1), (1, 0, 0, 1)))
        check_kept(self, led, UNEVEN, (1, 0), stay(UNEVEN))


class Alike(unittest.TestCase):
    def check(self, code, other, expected):
        found = alike(code, other)
        self.assertIs(found is not None, expected)
        if found is not None:
            order, names = found
            self.assertTrue(same(led(code, order, names), other))
            self.assertTrue(isinstance(found, tuple) and isinstance(order, tuple) and isinstance(names, tuple))

    def test_codes_that_were_led(self):
        for seed, code in enumerate(list(reference.small_codes())[::3] + reference.GREAT):
            for order in list(itertools.permutations(range(len(code[0]))))[:6]:
                other = led(code, order, renamed(code, seed))
                self.check(code, other, True)
                self.check(other, code, True)

    def test_by_the_definition(self):
        codes = list(reference.all_codes((1, 1), [0, 1]))[::2] + reference.some_codes((1, 1), ["a", 3, (1,)], 12, 1) + \
            reference.some_codes((2, 1), [0, 1], 10, 2) + reference.some_codes((1, 2), ["x", "y"], 10, 3)
        found = 0
        for code, other in itertools.product(codes, repeat=2):
            expected = any(
                brute_led(code, order, tuple(zip(values_of(code), names))) == other
                for order in itertools.permutations(range(2)) for names in itertools.permutations(values_of(other))
                if len(names) == len(values_of(code)))
            self.check(code, other, expected)
            found += expected
        self.assertGreater(found, len(codes))

    def test_the_one_way(self):
        code = ((1, 2, 3), (0, 1) + tuple(range(2, 24)))
        names = renamed(code, 4)
        self.assertTrue(same(alike(code, led(code, (2, 0, 1), names)), ((2, 0, 1), names)))
        names = ((7, 1), ("up", 2), ((3,), 3), ((3, "ab"), 4))
        self.assertTrue(same(alike(MIXED, led(MIXED, (1, 0), names)), ((1, 0), names)))

    def test_not_alike(self):
        self.assertIsNone(alike(FLAT, ((1, 1), (0, 1, 2, 0))))
        self.assertIsNone(alike(((1, 1), (0, 1, 2, 0)), FLAT))
        self.assertIsNone(alike(FLAT, ((1, 1), (0, 1, 1, None))))
        self.assertIsNone(alike(((1, 1), (0, 1, 1, None)), FLAT))
        self.assertIsNone(alike(((1, 1), (0, 1, None, 1)), ((1, 1), (0, 1, 1, None))))
        self.assertIsNone(alike(((1, 2), (0, 1) * 3), ((2, 2), (0, 1, 0) * 3)))
        self.assertIsNone(alike(((1,), (0, 1)), ((1, 1), (0, 1, 0, 1))))
        self.assertIsNone(alike(((1, 1), (0, 1, 0, 1)), ((1,), (0, 1))))
        self.assertIsNone(alike(((3,), (0, 1, 0, 1)), ((1, 1), (0, 1, 0, 1))))
        # The labels could be exchanged, but no order of the cells fits the tops as well.
        self.assertIsNone(alike(((1, 2), (0, 0, 0, 1, 1, 1)), ((2, 1), (0, 0, 0, 1, 1, 1))))

    def test_many_cells(self):
        code = ((1,) * 6, tuple(at % 7 if at % 3 else None for at in range(1, 65)))
        order = (3, 5, 0, 2, 4, 1)
        self.check(code, led(code, order, renamed(code, 2)), True)
        other = led(code, order, stay(code))
        self.check(code, (other[0], other[1][:-1] + (77,)), False)
        even = ((1, 1, 1, 3, 3, 3), reference.sums_labels((1, 1, 1, 3, 3, 3), 2))
        self.check(even, even, True)
        self.check(even, led(even, (5, 4, 3, 2, 1, 0), ((0, "b"), (1, "a"))), True)
        self.check(even, (even[0], even[1][:-1] + (1 - even[1][-1],)), False)

    def test_by_name_and_kept(self):
        self.assertEqual(alike(code=UNEVEN, other=UNEVEN), ((0, 1), ((0, 0), (1, 1))))
        self.assertIsNone(alike(other=UNEVEN, code=FLAT))
        check_kept(self, alike, UNEVEN, ((2, 1), (7, 3, 3, None, None, 7)))
        check_kept(self, alike, FLAT, FLAT)


class WhatHolds(unittest.TestCase):
    """[D8]."""

    def test_strengths_are_led_along(self):
        for seed, code in enumerate(list(reference.small_codes())[::4] + reference.GREAT):
            ranks = dict(zip(reference.levels(code[0]), strengths(code)))
            for order in list(itertools.permutations(range(len(code[0]))))[-3:]:
                other = led(code, order, renamed(code, seed))
                for newer, rank in zip(reference.levels(other[0]), strengths(other)):
                    elder = tuple(newer[order.index(cell)] for cell in range(len(order)))
                    self.assertEqual(rank, ranks[elder])

    def test_led_codes_are_never_weaker(self):
        for code in list(reference.small_codes())[::6]:
            for order in itertools.permutations(range(len(code[0]))):
                other = led(code, order, stay(code))
                self.assertIs(never_weaker(code, other), True)
                self.assertIs(never_weaker(other, code), True)


if __name__ == "__main__":
    unittest.main()
