"""[A4], [A5]: values and their order."""

import itertools
import unittest

from onlyhigher.values import is_value, value_rank
from samples import ODD_VALUES, check_kept, same

# All kinds of values, ascending.
ORDER = [
    0, 1, 9, 10, 99, 100, 998, 999,
    "a", "aa", "ab", "abcdefgh", "b", "z", "zzzzzzzz",
    (0,), (0, 0), (0, 0, 0), (0, 0, 0, 0), (0, 1), (0, 999), (0, "a"), (0, "a", 5), (1,), (9, 1), (10,), (999,),
    (999, "z"), ("a",), ("a", 0), ("a", "a"), ("a", "b"), ("ab",), ("b", 0), ("z", "z", "z", "z"),
]


class IsValue(unittest.TestCase):
    def test_values(self):
        for value in ORDER:
            self.assertIs(is_value(value), True, value)

    def test_no_values(self):
        for value in ODD_VALUES:
            self.assertIs(is_value(value), False, repr(value)[:60])

    def test_numbers(self):
        for value, right in ((0, True), (999, True), (-1, False), (1000, False), (10 ** 399, False)):
            self.assertIs(is_value(value), right)
            self.assertIs(is_value((value,)), right)
            self.assertIs(is_value(("a", value)), right)

    def test_words(self):
        for many, right in ((0, False), (1, True), (2, True), (8, True), (9, False), (20000, False)):
            self.assertIs(is_value("a" * many), right)
            self.assertIs(is_value((0, "z" * many)), right)

    def test_signs_of_words(self):
        for code in range(32, 127):
            sign = chr(code)
            small = sign in "abcdefghijklmnopqrstuvwxyz"
            self.assertIs(is_value(sign), small)
            self.assertIs(is_value("ab" + sign), small)
            self.assertIs(is_value((sign + "ab",)), small)
        for sign in ("\n", "a\n", "\na", "\u00e9", "\u0430"):
            self.assertIs(is_value(sign), False)

    def test_items_of_tuples(self):
        for many, right in ((0, False), (1, True), (3, True), (4, True), (5, False), (4000, False)):
            self.assertIs(is_value((7,) * many), right)
            self.assertIs(is_value(("up",) * many), right)

    def test_wrong_items(self):
        for item in [None, True, False, [], [1], {}, (), (1,), ("a",), "A", "", -1, 1000]:
            for row in ((item,), (item, 1), (1, item), ("a", 1, "b", item)):
                self.assertIs(is_value(row), False, repr(row))

    def test_lists_are_no_values(self):
        for value in ORDER:
            if isinstance(value, tuple):
                self.assertIs(is_value(list(value)), False)
            self.assertIs(is_value([value]), False)
            self.assertIs(is_value({value: value}), False)

    def test_by_name_and_kept(self):
        self.assertIs(is_value(value=(3, "ab")), True)
        self.assertIs(is_value(value=[3]), False)
        for value in ORDER + ODD_VALUES:
            check_kept(self, is_value, value)


class ValueRank(unittest.TestCase):
    def test_ranks(self):
        self.assertTrue(same(value_rank(0), (0, 0)))
        self.assertTrue(same(value_rank(999), (0, 999)))
        self.assertTrue(same(value_rank("a"), (1, "a")))
        self.assertTrue(same(value_rank((5,)), (2, ((0, 5),))))
        self.assertTrue(same(value_rank(("ab", 0, 0, "z")), (2, ((1, "ab"), (0, 0), (0, 0), (1, "z")))))

    def test_order(self):
        for one, other in itertools.combinations(ORDER, 2):
            self.assertLess(value_rank(one), value_rank(other), (one, other))
        self.assertEqual(sorted(reversed(ORDER), key=value_rank), ORDER)

    def test_by_name_and_kept(self):
        self.assertEqual(value_rank(value="up"), (1, "up"))
        for value in ORDER:
            check_kept(self, value_rank, value)


if __name__ == "__main__":
    unittest.main()
