"""[C1] to [C4]: groups, sums, spans and characters."""

import itertools
import random
import unittest

import reference
from onlyhigher.groups import characters, group_error, group_members, kills, span, summed
from samples import ODD_VALUES, check_kept, same

SMALL = list(reference.all_groups(12))
GREAT = [(64,), (2, 32), (8, 8), (4, 4, 4), (2, 4, 8), (63,), (3, 21), (2, 31), (61,), (2, 2, 16), (6, 10), (4, 15)]


def members(group):
    return list(itertools.product(*[range(modulus) for modulus in group]))


def some_of(group, seed):
    """Tuples of elements of the group, with some that stand there twice."""
    pick = random.Random(seed)
    for many in (0, 1, 1, 2, 3):
        some = tuple(pick.choice(members(group)) for _ in range(many))
        yield some
        yield some + some[:1] + ((0,) * len(group),)


class GroupError(unittest.TestCase):
    def test_groups(self):
        for group in list(reference.all_groups(64))[::5] + GREAT:
            self.assertIsNone(group_error(group))

    def test_form(self):
        for value in (None, True, 2, "22", [], [2], [4, 4], {}, {2: 2}, (), (2,) * 4, (0,) * 4, (2,) * 4000, (None,) * 4):
            self.assertEqual(group_error(value), "form")

    def test_moduli(self):
        for modulus in (0, 1, 65, -2, 10 ** 399, -(10 ** 399), True, False, None, "2", (2,), [2], {}):
            self.assertTrue(same(group_error((modulus,)), ("modulus", 0)))
            self.assertTrue(same(group_error((2, modulus)), ("modulus", 1)))
            self.assertTrue(same(group_error((2, 2, modulus)), ("modulus", 2)))
        self.assertEqual([group_error((modulus,)) for modulus in (1, 2, 63, 64, 65)],
                         [("modulus", 0), None, None, None, ("modulus", 0)])

    def test_many(self):
        for group in ((8, 9), (64, 2), (2, 33), (64, 64, 64), (5, 13), (4, 4, 5), (3, 3, 8)):
            self.assertEqual(group_error(group), "many")
        for group in ((8, 8), (2, 32), (5, 12), (4, 4, 4), (3, 3, 7)):
            self.assertIsNone(group_error(group))

    def test_order_of_faults(self):
        self.assertEqual(group_error((1, 1, 1, 1)), "form")
        self.assertEqual(group_error((64, 64, 1)), ("modulus", 2))
        self.assertEqual(group_error((64, 65, True)), ("modulus", 1))
        self.assertEqual(group_error((False, 0)), ("modulus", 0))

    def test_odd_values(self):
        for value in ODD_VALUES:
            self.assertIsNotNone(group_error(value))
            check_kept(self, group_error, value)
        self.assertIsNone(group_error(value=(2, 2)))
        self.assertEqual(group_error(value=None), "form")


class GroupMembers(unittest.TestCase):
    def test_members(self):
        for group in SMALL + GREAT:
            self.assertTrue(same(group_members(group), tuple(members(group))))
            self.assertEqual(list(group_members(group)), sorted(group_members(group)))

    def test_by_name_and_kept(self):
        self.assertEqual(group_members(group=(2,)), ((0,), (1,)))
        check_kept(self, group_members, (2, 3))


class Summed(unittest.TestCase):
    def test_sums(self):
        pick = random.Random(2)
        for group in SMALL[::3] + GREAT:
            for many in range(1, 7):
                marks = tuple(pick.choice(members(group)) for _ in range(many))
                for greatest in (1, 7, 100, 10 ** 50):
                    counts = tuple(pick.randrange(greatest + 1) for _ in marks)
                    self.assertTrue(same(summed(group, marks, counts), reference.brute_sum(group, marks, counts)))

    def test_counts_of_nought(self):
        for group in GREAT:
            zero = (0,) * len(group)
            mark = tuple(modulus - 1 for modulus in group)
            self.assertTrue(same(summed(group, (mark,), (0,)), zero))
            self.assertTrue(same(summed(group, (mark,) * 6, (0,) * 6), zero))
            self.assertTrue(same(summed(group, (zero,) * 6, (10 ** 300,) * 6), zero))

    def test_great_counts(self):
        self.assertEqual(summed((64,), ((1,),), (10 ** 399,)), (0,))
        self.assertEqual(summed((63,), ((1,),), (10 ** 399,)), (10 ** 399 % 63,))
        self.assertEqual(summed((2, 31), ((1, 2), (0, 30)), (3, 10 ** 300)), (1, (6 + 30 * 10 ** 300) % 31))

    def test_by_name_and_kept(self):
        self.assertEqual(summed(group=(4,), marks=((3,),), counts=(2,)), (2,))
        self.assertEqual(summed(counts=(1,), marks=((3,),), group=(4,)), (3,))
        check_kept(self, summed, (2, 4), ((1, 1), (0, 3)), (7, 2))


class Span(unittest.TestCase):
    def test_by_the_definition(self):
        for seed, group in enumerate(SMALL + GREAT):
            for some in some_of(group, seed):
                self.assertTrue(same(span(group, some), reference.brute_span(group, some)))

    def test_of_nothing(self):
        for group in SMALL + GREAT:
            zero = (0,) * len(group)
            self.assertTrue(same(span(group, ()), (zero,)))
            self.assertTrue(same(span(group, (zero, zero)), (zero,)))

    def test_of_all(self):
        for group in GREAT:
            self.assertEqual(span(group, group_members(group)), group_members(group))
            self.assertEqual(span(group, group_members(group)[::-1] * 3), group_members(group))
        self.assertEqual(span((61,), ((5,),)), group_members((61,)))
        self.assertEqual(span((64,), ((6,),)), tuple((at,) for at in range(0, 64, 2)))
        self.assertEqual(span((64,), ((48,), (40,))), tuple((at,) for at in range(0, 64, 8)))

    def test_by_name_and_kept(self):
        self.assertEqual(span(group=(4,), some=((2,),)), ((0,), (2,)))
        self.assertEqual(span(some=(), group=(4,)), ((0,),))
        check_kept(self, span, (2, 4), ((1, 1), (0, 2)))


class Kills(unittest.TestCase):
    def test_by_the_definition(self):
        for group in SMALL + [(2, 2, 4), (2, 8), (4, 6), (2, 3, 6), (3, 9)]:
            for character, member in itertools.product(members(group), repeat=2):
                self.assertIs(kills(group, character, member), reference.brute_kills(group, character, member))

    def test_great_groups(self):
        pick = random.Random(3)
        for group in GREAT:
            for _ in range(200):
                character, member = pick.choice(members(group)), pick.choice(members(group))
                self.assertIs(kills(group, character, member), reference.brute_kills(group, character, member))

    def test_sums_are_killed(self):
        for group in ((6,), (2, 4), (3, 3), (2, 2, 2)):
            for character, one, other in itertools.product(members(group), repeat=3):
                if kills(group, character, one) and kills(group, character, other):
                    self.assertTrue(kills(group, character, summed(group, (one, other), (1, 1))))

    def test_by_name_and_kept(self):
        self.assertIs(kills(group=(2, 4), character=(1, 2), member=(1, 1)), True)
        self.assertIs(kills(member=(1, 0), character=(1, 2), group=(2, 4)), False)
        check_kept(self, kills, (2, 4), (1, 2), (1, 1))


class Characters(unittest.TestCase):
    def test_by_the_definition(self):
        for seed, group in enumerate(SMALL + GREAT):
            for some in some_of(group, seed):
                expected = tuple(
                    row for row in members(group) if all(reference.brute_kills(group, row, item) for item in some))
                self.assertTrue(same(characters(group, some), expected))

    def test_of_nothing_and_of_all(self):
        for group in SMALL + GREAT:
            zero = (0,) * len(group)
            self.assertEqual(characters(group, ()), group_members(group))
            self.assertEqual(characters(group, (zero,)), group_members(group))
            self.assertTrue(same(characters(group, group_members(group)), (zero,)))
            self.assertTrue(same(characters(group, group_members(group) * 9), (zero,)))

    def test_span_is_what_the_characters_kill(self):
        for seed, group in enumerate(SMALL + GREAT):
            for some in some_of(group, seed + 1000):
                rows = characters(group, some)
                killed = [item for item in members(group) if all(kills(group, row, item) for row in rows)]
                self.assertEqual(span(group, some), tuple(killed))
                self.assertEqual(len(rows) * len(killed), len(members(group)))

    def test_by_name_and_kept(self):
        self.assertEqual(characters(group=(4,), some=((2,),)), ((0,), (2,)))
        self.assertEqual(characters(some=((1,),), group=(4,)), ((0,),))
        check_kept(self, characters, (2, 4), ((1, 1), (0, 2)))


if __name__ == "__main__":
    unittest.main()
