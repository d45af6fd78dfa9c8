"""[I1] to [I7]: shares, means, the plans for them, and how the number of writes is spread."""

import itertools
import random
import unittest
from fractions import Fraction

import reference
from onlyhigher.errors import NoState, NoValue, Unfit
from onlyhigher.plays import told_state
from onlyhigher.shares import mean_state, means, means_hold, plan_means, shares_error, spread
from onlyhigher.strengths import strengths
from samples import ODD_VALUES, check_error, check_given, check_kept, same

TWICE = ((1, 1, 1), (0, 1, 2, 3, 3, 2, 1, 0))
THREE = ((1, 1), ("a", "b", "c", "a"))
GAP = ((1, 1), (0, 1, 1, None))
EVEN, UNEVEN = ((0, 1), (1, 1), (2, 1), (3, 1)), (("a", 1), ("b", 2), ("c", 3))


def shares_by(code, weights):
    """The shares of the code with these weights, taken by turns."""
    names = sorted(reference.values(code), key=reference.order_key)
    return tuple(zip(names, itertools.cycle(weights)))


def cases():
    """Codes, each with even shares or with uneven ones."""
    pick = random.Random(9)
    for code in reference.small_codes():
        yield code, shares_by(code, [1] if pick.random() < 0.2 else [pick.choice([1, 2, 3, 7, 999, 1000]) for _ in range(5)])


def some_cases():
    return list(cases())[::3]


def share(shares, read, value):
    """[I1]: the share of value at a state that reads read."""
    return Fraction(dict(shares)[value], sum(weight for name, weight in shares if name != read))


def pair(number):
    return None if number is None else (number.numerator, number.denominator)


def planned(code, shares, goal):
    """The mean number of writes from each state, if the writer goes to goal(state, value), which may be None."""
    found = {}
    for state, name in reversed(list(reference.table(code).items())):
        if name is not None:
            total = Fraction(0)
            for value in reference.values(code):
                if value != name and goal(state, value) is not None:
                    total += share(shares, name, value) * (1 + found[goal(state, value)])
            found[state] = total
    return found


def brute_means(code, shares):
    """[I2]: the mean of each labelled state."""
    found = {}
    for state, name in reversed(list(reference.table(code).items())):
        if name is not None:
            total = Fraction(0)
            for value in reference.values(code):
                behind = [found[other] for other in reference.ways(code, state, value)]
                if value != name and behind:
                    total += share(shares, name, value) * (1 + max(behind))
            found[state] = total
    return found


def row_of(code, found):
    return tuple(pair(found.get(state)) for state in reference.levels(code[0]))


def brute_spread(code, shares, goal):
    """[I6]: each row of values that can come is followed to its end."""
    found = {}

    def further(state, writes, chance):
        name = reference.table(code)[state]
        for value in reference.values(code):
            if value != name:
                behind, part = goal(state, value), chance * share(shares, name, value)
                if behind is None:
                    found[writes] = found.get(writes, 0) + part
                else:
                    further(behind, writes + 1, part)

    further((0,) * len(code[0]), 0, Fraction(1))
    return tuple((writes, pair(chance)) for writes, chance in sorted(found.items()))


def great_cases():
    pick = random.Random(2)
    for code in reference.GREAT:
        yield code, shares_by(code, [1])
        yield code, shares_by(code, [pick.randrange(1, 1001) for _ in range(64)])
    wild = ((7, 7, 7), tuple(pick.randrange(64) for _ in range(512)))
    yield wild, shares_by(wild, [1000])
    yield wild, shares_by(wild, [pick.randrange(1, 1001) for _ in range(64)])


GREAT = list(great_cases())


class SharesError(unittest.TestCase):
    def test_shares(self):
        for code, shares in cases():
            self.assertIsNone(shares_error(code, shares))
        for weight in (1, 2, 999, 1000):
            self.assertIsNone(shares_error(GAP, ((0, weight), (1, 1001 - weight))))

    def test_other_kinds(self):
        for value in ODD_VALUES + [list(EVEN), dict(EVEN), 7, "ab"]:
            if not isinstance(value, tuple):
                self.assertEqual(shares_error(TWICE, value), "form")
            check_kept(self, shares_error, TWICE, value)
        for value in ((True,), (None,), ([],), ({},), ((),), (0,) * 4000, (0, 1), ((0, 1, 1),), ([0, 1],), ((0,),), ("ab",)):
            self.assertEqual(shares_error(TWICE, value), ("share", 0))

    def test_weights(self):
        for weight in (0, -1, 1001, True, False, None, "1", (1,), [1], 10 ** 399):
            for at in range(4):
                value = EVEN[:at] + ((at, weight),) + EVEN[at + 1:]
                self.assertEqual(shares_error(TWICE, value), ("share", at))

    def test_values(self):
        for name in (True, None, 1000, -1, "B", "", (), ((1,),), [0], {}, "0"):
            self.assertEqual(shares_error(TWICE, EVEN[:2] + ((name, 1),) + EVEN[3:]), ("share", 2))
        for value in (EVEN[:3], EVEN[1:], EVEN[::-1], EVEN + ((4, 1),), EVEN[:3] + ((4, 1),), EVEN + EVEN[3:], (), EVEN[:1] * 4,
                      EVEN[:1] + EVEN[2:1:-1] + EVEN[1:2] + EVEN[3:], ((("a"), 1),) + EVEN, (((0,), 1),) + EVEN[1:]):
            self.assertEqual(shares_error(TWICE, value), "values")
        mixed = ((3,), (7, "a", (7,), ("a", 0)))
        self.assertIsNone(shares_error(mixed, ((7, 1), ("a", 2), ((7,), 3), (("a", 0), 4))))
        self.assertEqual(shares_error(mixed, (("a", 2), (7, 1), ((7,), 3), (("a", 0), 4))), "values")

    def test_the_first_fault(self):
        self.assertEqual(shares_error(TWICE, ((9, 1), (1, 0), (2, 0))), ("share", 1))
        self.assertEqual(shares_error(TWICE, ((9, 1), (0, 1), (0, 1001))), ("share", 2))

    def test_by_name(self):
        self.assertIsNone(shares_error(code=THREE, value=UNEVEN))
        self.assertEqual(shares_error(value=EVEN, code=THREE), "values")


class Means(unittest.TestCase):
    def test_by_the_definition(self):
        for code, shares in cases():
            found = means(code, shares)
            self.assertTrue(same(found, row_of(code, brute_means(code, shares))), (code, shares))
            self.assertIs(means_hold(code, shares, found), True)

    def test_all_plans(self):
        # [I7]: each plan without a look back has at most the mean, and some plan has it.
        for code in list(reference.all_codes((1, 1), [0, 1, 2]))[::5] + reference.some_codes((1, 2), [0, 1], 20, 8):
            shares = shares_by(code, [1, 3, 2])
            best, chosen = brute_means(code, shares), {}
            asks = [(state, value) for state, name in reference.table(code).items() for value in reference.values(code)
                    if name not in (None, value) and reference.ways(code, state, value)]
            for goals in itertools.product(*[reference.ways(code, state, value) for state, value in asks]):
                plan = dict(zip(asks, goals))
                found = planned(code, shares, lambda state, value: plan.get((state, value)))
                for state, number in found.items():
                    self.assertLessEqual(number, best[state])
                    chosen[state] = max(number, chosen.get(state, 0))
            self.assertEqual(row_of(code, chosen), means(code, shares))

    def test_great_codes(self):
        for code, shares in GREAT:
            found = means(code, shares)
            numbers = {state: None if item is None else Fraction(*item) for state, item in zip(reference.levels(code[0]), found)}
            self.assertEqual(found, row_of(code, {state: number for state, number in numbers.items() if number is not None}))
            for state in list(numbers)[:3] + list(numbers)[-70::9]:
                name, total = reference.table(code)[state], Fraction(0)
                if name is not None:
                    for value in reference.values(code):
                        behind = [numbers[other] for other in reference.ways(code, state, value)]
                        if value != name and behind:
                            total += share(shares, name, value) * (1 + max(behind))
                    self.assertEqual(numbers[state], total)

    def test_what_can_not_be_written(self):
        self.assertEqual(means(((1,), (0, 1)), ((0, 1), (1, 1000))), ((1, 1), (0, 1)))
        # The 2 that is below the 1 can never be written behind it.
        self.assertEqual(means(((2,), (0, 2, 1)), ((0, 4), (1, 3), (2, 1))), ((31, 28), (3, 7), (0, 1)))
        self.assertEqual(means(GAP, ((0, 1), (1, 1))), ((1, 1), (0, 1), (0, 1), None))

    def test_by_name_and_kept(self):
        self.assertEqual(means(code=GAP, shares=((0, 1), (1, 1))), ((1, 1), (0, 1), (0, 1), None))
        self.assertEqual(means(shares=UNEVEN, code=THREE), ((13, 10), (1, 4), (1, 3), (0, 1)))
        check_kept(self, means, THREE, UNEVEN)


class MeansHold(unittest.TestCase):
    def test_changed_rows(self):
        for code, shares in some_cases():
            right = means(code, shares)
            for at, item in enumerate(right):
                others = [(0, 1), (1, 1)] if item is None else [
                    None, (2 * item[0], 2 * item[1]), (-item[0], -item[1]), (item[0] + item[1], item[1]), item[:1], item + (1,),
                    list(item), item[0], (item[0], 0), (item[0] + 1, item[1])]
                for other in others:
                    row = right[:at] + (other,) + right[at + 1:]
                    if other != item:
                        self.assertIs(means_hold(code, shares, row), False, (code, shares, row))

    def test_other_kinds(self):
        right = means(GAP, ((0, 1), (1, 1)))
        self.assertIs(means_hold(GAP, ((0, 1), (1, 1)), right), True)
        for value in ODD_VALUES + [list(right), right[:-1], right + (None,), (right,), dict(enumerate(right)), right[::-1],
                                   ((True, 1), (0, 1), (0, 1), None), ((1, True), (0, 1), (0, 1), None),
                                   ((1, 1), (False, 1), (0, 1), None), ((1, 1), (0, 2), (0, 1), None),
                                   ((1, 1), (0, 0), (0, 1), None), ((-1, -1), (0, 1), (0, 1), None), ((1, 1), (0, 1), (0, 1), (0, 1)),
                                   (("1", 1), (0, 1), (0, 1), None), (1, 0, 0, None), ((1, 1), (0, 1), None, None)]:
            self.assertIs(means_hold(GAP, ((0, 1), (1, 1)), value), False)
            check_kept(self, means_hold, GAP, ((0, 1), (1, 1)), value)

    def test_great_codes(self):
        for code, shares in GREAT:
            right = means(code, shares)
            self.assertIs(means_hold(code, shares, right), True)
            above, below = right[0]
            self.assertIs(means_hold(code, shares, ((above + below, below),) + right[1:]), False)

    def test_by_name(self):
        self.assertIs(means_hold(value=means(THREE, UNEVEN), shares=UNEVEN, code=THREE), True)


class MeanState(unittest.TestCase):
    def test_by_the_definition(self):
        none = 0
        for code, shares in some_cases():
            numbers = brute_means(code, shares)
            for state, name in reference.table(code).items():
                for value in reference.values(code):
                    if name in (None, value):
                        check_error(self, Unfit(), mean_state, code, shares, state, value)
                        continue
                    best = sorted(reference.ways(code, state, value), key=lambda other: (-numbers[other], sum(other), other))
                    none += not best
                    self.assertTrue(same(mean_state(code, shares, state, value), best[0] if best else None))
        self.assertGreater(none, 50)

    def test_the_greatest_nearest_least(self):
        even = ((0, 1), (1, 1))
        self.assertEqual(mean_state(GAP, even, (0, 0), 1), (0, 1))
        # Both ones above have the mean 0; the nearer one is the greater state.
        self.assertEqual(mean_state(((1, 2), (0, None, 1, 1, None, None)), even, (0, 0), 1), (1, 0))
        # The farther one has a greater mean, though it is not stronger.
        code = ((4, 1), (0, 1, None, None, 1, None, 0, None, 2, None))
        shares = ((0, 5), (1, 1), (2, 1))
        self.assertEqual(strengths(code)[1], 0)
        self.assertEqual(mean_state(code, shares, (0, 0), 1), (2, 0))

    def test_great_codes(self):
        for code, shares in GREAT:
            state, name = (0,) * len(code[0]), code[1][0]
            numbers = dict(zip(reference.levels(code[0]), means(code, shares)))
            for value in [value for value in reference.values(code) if value != name][:3]:
                best = sorted(reference.ways(code, state, value), key=lambda other: (-Fraction(*numbers[other]), sum(other), other))
                self.assertEqual(mean_state(code, shares, state, value), best[0] if best else None)

    def test_no_states(self):
        for state in ODD_VALUES + [(2, 0), (0, -1), (True, 0), [0, 0], 0, (0,), (0, 0, 0), ("0", 0)]:
            for value in ("a", "b", None, 9):
                check_given(self, NoState, state, mean_state, THREE, UNEVEN, state, value)
            check_kept(self, mean_state, THREE, UNEVEN, state, "b")

    def test_no_values(self):
        for value in ODD_VALUES + [2, "b", (1,), [1], "1", -0.0]:
            for state in ((0, 0), (0, 1), (1, 1)):
                check_given(self, NoValue, value, mean_state, GAP, ((0, 1), (1, 1)), state, value)
            check_kept(self, mean_state, GAP, ((0, 1), (1, 1)), (0, 0), value)

    def test_order_of_errors(self):
        shares = ((0, 1), (1, 1))
        check_error(self, NoState((2, 2)), mean_state, GAP, shares, (2, 2), 9)
        check_error(self, NoValue(9), mean_state, GAP, shares, (1, 1), 9)
        check_error(self, Unfit(), mean_state, GAP, shares, (1, 1), 0)
        check_error(self, Unfit(), mean_state, GAP, shares, (0, 1), 1)

    def test_by_name(self):
        self.assertEqual(mean_state(code=THREE, shares=UNEVEN, state=(0, 0), value="c"), (1, 0))
        self.assertEqual(mean_state(THREE, value="a", state=(1, 0), shares=UNEVEN), (1, 1))


class PlanMeans(unittest.TestCase):
    def test_by_the_definition(self):
        less = 0
        for code, shares in cases():
            found = plan_means(code, shares)
            expected = row_of(code, planned(code, shares, lambda state, value: told_state(code, state, value)))
            self.assertTrue(same(found, expected))
            less += found != means(code, shares)
        self.assertGreater(less, 2)

    def test_great_codes(self):
        for code, shares in GREAT:
            numbers = dict(zip(reference.levels(code[0]), plan_means(code, shares)))
            ranks = dict(zip(reference.levels(code[0]), strengths(code)))
            for state in list(numbers)[:1] + list(numbers)[-70::9]:
                name, total = reference.table(code)[state], Fraction(0)
                if name is not None:
                    for value in reference.values(code):
                        goals = sorted(reference.ways(code, state, value), key=lambda other: (-ranks[other], sum(other), other))
                        if value != name and goals:
                            total += share(shares, name, value) * (1 + Fraction(*numbers[goals[0]]))
                    self.assertEqual(numbers[state], pair(total))

    def test_by_name_and_kept(self):
        self.assertEqual(plan_means(code=THREE, shares=UNEVEN), ((13, 10), (1, 4), (1, 3), (0, 1)))
        self.assertEqual(plan_means(shares=EVEN, code=TWICE)[0], (20, 9))
        check_kept(self, plan_means, TWICE, EVEN)


class Spread(unittest.TestCase):
    def test_by_the_definition(self):
        for code, shares in some_cases():
            expected = brute_spread(code, shares, lambda state, value: mean_state(code, shares, state, value))
            self.assertTrue(same(spread(code, shares), expected), (code, shares))

    def test_numbers_that_can_not_be(self):
        self.assertEqual(spread(((3,), (0, 1, 0, 1)), ((0, 1), (1, 2))), ((3, (1, 1)),))
        self.assertEqual(spread(((2,), (0, 0, 1)), ((0, 1), (1, 1))), ((1, (1, 1)),))
        self.assertEqual(spread(((2,), (0, None, 1)), ((0, 9), (1, 1))), ((1, (1, 1)),))
        # From (0,) a 2 ends all, from (1,) too; from (2,) it can still be written.
        self.assertEqual(spread(((3,), (0, 1, 0, 2)), ((0, 1), (1, 1), (2, 3))), ((1, (3, 4)), (2, (13, 64)), (3, (3, 64))))

    def test_by_name_and_kept(self):
        self.assertEqual(spread(code=THREE, shares=UNEVEN), ((1, (7, 10)), (2, (3, 10))))
        self.assertEqual(spread(shares=EVEN, code=TWICE), ((2, (7, 9)), (3, (2, 9))))
        check_kept(self, spread, TWICE, EVEN)


class WhatHolds(unittest.TestCase):
    """[I7]."""

    def test_means_plans_and_strengths(self):
        for code, shares in list(cases()) + GREAT:
            for mean, plan, rank in zip(means(code, shares), plan_means(code, shares), strengths(code)):
                if rank is None:
                    self.assertTrue(mean is None and plan is None)
                else:
                    self.assertTrue(Fraction(*mean) >= Fraction(*plan) >= rank)

    def test_spread_adds_up(self):
        for code, shares in list(cases()) + GREAT:
            rows = spread(code, shares)
            self.assertEqual([writes for writes, _ in rows], sorted({writes for writes, _ in rows}))
            chances = [Fraction(*chance) for _, chance in rows]
            self.assertEqual([pair(chance) for chance in chances], [chance for _, chance in rows])
            self.assertTrue(all(chance > 0 for chance in chances))
            self.assertEqual(sum(chances), 1)
            mean = sum(writes * chance for (writes, _), chance in zip(rows, chances))
            self.assertEqual(pair(mean), means(code, shares)[0])

    def test_weights_times_a_number(self):
        pick = random.Random(4)
        for code, _ in some_cases():
            shares = shares_by(code, [pick.randrange(1, 11) for _ in range(5)])
            for many in (2, 7, 100):
                more = tuple((value, many * weight) for value, weight in shares)
                self.assertIsNone(shares_error(code, more))
                self.assertEqual(means(code, more), means(code, shares))
                self.assertEqual(plan_means(code, more), plan_means(code, shares))
                self.assertEqual(spread(code, more), spread(code, shares))
                self.assertIs(means_hold(code, more, means(code, shares)), True)


if __name__ == "__main__":
    unittest.main()
