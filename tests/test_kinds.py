"""[F1] to [F6]: kinds, what is asked, and strengths by a kind."""

import itertools
import random
import unittest

import reference
from onlyhigher.codes import values_of
from onlyhigher.errors import NoKind, NoState, NoValue, Unfit
from onlyhigher.kinds import asked, kind_error, kind_ranks_hold, kind_state, kind_strengths
from onlyhigher.plays import told_state
from onlyhigher.strengths import strengths
from samples import ODD_VALUES, check_error, check_given, check_kept, same

KINDS = ("any", "name", "buffer", "up", "both")
CLOCK = ((3,), (0, 1, 2, 0))
ROW = ((5,), ((0, 0), (0, 1), (1, 1), (1, 0), (0, 0), (0, 1)))
SHORT = ((3,), ((0, 0), (0, 1), (1, 0), (0, 0)))
GAP = ((1, 1), (0, 1, 1, None))
NO_KINDS = ODD_VALUES + ["Any", "any ", "names", "down", ("any",), ["any"], {"any": 1}, 0, 1]

# Codes with 512 states, and the kinds that fit them.
GREAT = [
    (((7, 7, 7), tuple(at % 64 for at in range(512))), ("any", "up", "both")),
    (((7, 7, 7), reference.sums_labels((7, 7, 7), 8)), ("any", "up", "both")),
    (((1, 1, 1, 3, 3, 3), tuple((at % 4, at // 4 % 4, at // 16 % 4) for at in range(512))), ("any", "name", "buffer")),
    (((7, 7, 7), tuple(("a", at % 2, at // 2 % 2, at // 4 % 2) for at in range(512))), ("any", "name", "buffer")),
    (((7, 7, 7), tuple((at * 7 % 64 * 15, at % 64) if at % 3 < 2 else None for at in range(512))), ("any", "name", "buffer")),
    (((7, 7, 7), tuple(("w",) if at % 2 else (at % 7,) for at in range(512))), ("any", "name", "buffer")),
]


def kinds_of(code):
    return [kind for kind in KINDS if reference.kind_fits(code, kind)]


def fits(code, kind, row):
    """[F4]: the three lines of [B3], with what is asked in the place of the other values."""
    names, places = reference.table(code), dict(zip(reference.levels(code[0]), row))
    asks = {name: reference.asked_set(code, kind, name) for name in values_of(code)}
    for state, name in names.items():
        if name is None:
            if places[state] is not None:
                return False
            continue
        best = {}
        for other, value in names.items():
            if value is not None and reference.above(state, other):
                best[value] = max(best.get(value, -1), places[other])
        if places[state] != 1 + min(best.get(value, -1) for value in asks[name]):
            return False
    return True


class KindError(unittest.TestCase):
    def test_by_the_definition(self):
        seen = set()
        for code in list(reference.small_codes())[::3] + [code for code, _ in reference.kind_codes()] + reference.GREAT:
            for kind in KINDS:
                fit = reference.kind_fits(code, kind)
                seen.add((kind, fit))
                self.assertEqual(kind_error(code, kind), None if fit else "form")
        self.assertEqual(len(seen), 9)

    def test_what_are_no_kinds(self):
        for code in (CLOCK, ROW, GAP):
            for kind in NO_KINDS:
                self.assertEqual(kind_error(code, kind), "kind")
                check_kept(self, kind_error, code, kind)
                for call, rest in ((asked, (0,)), (kind_strengths, ()), (kind_ranks_hold, (None,)), (kind_state, ((0,), 0))):
                    check_error(self, NoKind("kind"), call, code, kind, *rest)

    def test_forms(self):
        rows = [
            (((1,), ((0,), (1,))), ("any", "name", "buffer")), (((1,), ((0,), (1, 1))), ("any",)),
            (((1,), ((0,), "a")), ("any",)), (((1,), (0, (0,))), ("any",)), (((1,), (0, 1)), ("any", "up", "both")),
            (((1,), (1, 0)), ("any", "up", "both")), (((1,), (1, 2)), ("any",)), (((1,), (0, 2)), ("any",)),
            (((1,), (0, "a")), ("any",)), (((2,), (2, 0, 1)), ("any", "up", "both")), (((2,), (0, 1, "b")), ("any",)),
            (((2,), (0, 1, (2,))), ("any",)), (((2,), ((0, 1), (2, 3), (4, 5, 6))), ("any",)), (((2,), (0, 1, 3)), ("any",)),
            (((1,), ((0, 1, 2, "a"), ("b", 1, 2, 3))), ("any", "name", "buffer"))]
        for code, fit in rows:
            self.assertEqual([kind for kind in KINDS if kind_error(code, kind) is None], [kind for kind in KINDS if kind in fit])
            for kind in KINDS:
                if kind not in fit:
                    self.assertEqual(kind_error(code, kind), "form")
                    for call, rest in ((asked, (0,)), (kind_strengths, ()), (kind_ranks_hold, (None,)), (kind_state, ((9,), 0))):
                        check_error(self, NoKind("form"), call, code, kind, *rest)

    def test_by_name(self):
        self.assertIsNone(kind_error(code=CLOCK, kind="up"))
        self.assertEqual(kind_error(kind=None, code=CLOCK), "kind")


class Asked(unittest.TestCase):
    def test_by_the_definition(self):
        beyond = 0
        for code, kinds in list(reference.kind_codes()) + [(code, kinds) for code, kinds in GREAT]:
            for kind in kinds:
                for value in values_of(code)[:9]:
                    expected = sorted(reference.asked_set(code, kind, value), key=reference.order_key)
                    self.assertTrue(same(asked(code, kind, value), tuple(expected)), (code, kind, value))
                    self.assertTrue(expected)
                    beyond += len(set(expected) - set(values_of(code)))
        self.assertGreater(beyond, 100)

    def test_the_ends_of_a_ring(self):
        for many in range(2, 9):
            code = ((7,), tuple(min(at, many - 1) for at in range(8)))
            for value in range(many):
                self.assertEqual(asked(code, "up", value), ((value + 1) % many,))
                self.assertEqual(asked(code, "both", value), tuple(sorted({(value + 1) % many, (value - 1) % many})))

    def test_items_of_all_kinds_are_in_order(self):
        code = ((3,), (("b", 10), (9, "a"), (10, 9), ("a", "b")))
        self.assertEqual(asked(code, "name", (10, 9)), ((9, 9), (10, 10), (10, "a"), (10, "b"), ("a", 9), ("b", 9)))
        self.assertEqual(asked(code, "buffer", (10, 9)), ((9, 9), (9, 10), (9, "a"), (9, "b")))
        self.assertEqual(asked(code, "any", (10, 9)), ((9, "a"), ("a", "b"), ("b", 10)))

    def test_items_count_where_they_stand(self):
        # 5 stands first alone, 6 last alone: by name each keeps its place, in a buffer any item may come.
        code = ((1,), ((5, 6), (0, 0)))
        self.assertEqual(asked(code, "name", (0, 0)), ((0, 6), (5, 0)))
        self.assertEqual(asked(code, "buffer", (0, 0)), ((0, 5), (0, 6)))
        self.assertEqual(asked(code, "buffer", (5, 6)), ((6, 0), (6, 5), (6, 6)))

    def test_no_values(self):
        for code, kinds in ((CLOCK, ("any", "up", "both")), (SHORT, ("any", "name", "buffer"))):
            for kind in kinds:
                for value in [item for item in ODD_VALUES] + [3, 5, "a", (1, 1), (0,), [0, 0], (False, 0), (0, True), (0, 0, 0)]:
                    check_given(self, NoValue, value, asked, code, kind, value)
                    check_kept(self, asked, code, kind, value)

    def test_order_of_errors(self):
        check_error(self, NoKind("kind"), asked, CLOCK, "ups", 9)
        check_error(self, NoKind("form"), asked, CLOCK, "name", 9)
        check_error(self, NoValue(9), asked, CLOCK, "up", 9)

    def test_by_name(self):
        self.assertEqual(asked(code=CLOCK, kind="up", value=2), (0,))
        self.assertEqual(asked(value=2, kind="both", code=CLOCK), (0, 1))
        check_kept(self, asked, ROW, "buffer", (0, 1))


class KindStrengths(unittest.TestCase):
    def test_by_the_definition(self):
        for code, kinds in reference.kind_codes():
            for kind in kinds:
                expected = reference.kind_ranks(code, kind)
                self.assertTrue(same(kind_strengths(code, kind), expected), (code, kind))
                self.assertIs(kind_ranks_hold(code, kind, expected), True)

    def test_great_cards(self):
        for code, kinds in GREAT:
            for kind in kinds:
                found = kind_strengths(code, kind)
                self.assertTrue(fits(code, kind, found))
                self.assertIs(kind_ranks_hold(code, kind, found), True)
                self.assertIs(kind_ranks_hold(code, kind, (found[0] + 1,) + found[1:]), False)

    def test_counters(self):
        for top in range(1, 8):
            for many in range(2, top + 2):
                code = ((top,), tuple(at % many for at in range(top + 1)))
                self.assertEqual(kind_strengths(code, "up"), tuple(range(top, -1, -1)))

    def test_what_nobody_can_write(self):
        self.assertEqual(kind_strengths(SHORT, "name"), (1, 0, 0, 0))
        self.assertEqual(kind_strengths(SHORT, "buffer"), (1, 0, 0, 0))
        code = ((1, 1), ((0, 1), (1, 0), (1, 0), (0, 1)))
        self.assertEqual(kind_strengths(code, "any"), (2, 1, 1, 0))
        self.assertEqual(kind_strengths(code, "name"), (0, 0, 0, 0))

    def test_by_name_and_kept(self):
        self.assertEqual(kind_strengths(code=CLOCK, kind="up"), (3, 2, 1, 0))
        self.assertEqual(kind_strengths(kind="any", code=CLOCK), (1, 1, 0, 0))
        check_kept(self, kind_strengths, ROW, "buffer")
        check_kept(self, kind_strengths, ROW, "up")


class KindRanksHold(unittest.TestCase):
    def test_all_rows(self):
        for code, kind in ((CLOCK, "up"), (CLOCK, "both"), (CLOCK, "any"), (SHORT, "name"), (SHORT, "buffer"), (GAP, "up")):
            right = kind_strengths(code, kind)
            for row in itertools.product((None, 0, 1, 2, 3), repeat=4):
                self.assertIs(kind_ranks_hold(code, kind, row), row == right)

    def test_changed_rows(self):
        pick = random.Random(1)
        for code, kinds in list(reference.kind_codes())[::3]:
            for kind in kinds:
                right = kind_strengths(code, kind)
                for _ in range(3):
                    row = list(right)
                    at = pick.randrange(len(row))
                    row[at] = pick.choice([item for item in (None, -1, 0, 1, 2, 10 ** 399) if item != row[at]])
                    self.assertIs(kind_ranks_hold(code, kind, tuple(row)), False)

    def test_other_kinds(self):
        right = kind_strengths(CLOCK, "up")
        for value in ODD_VALUES + [list(right), right[:-1], right + (0,), right + (None,), (right,), dict(enumerate(right)),
                                   (3, 2, True, 0), (3, 2, 1, False), (3, 2, "1", 0), (3, 2, 1, None), (3, 2, (1,), 0)]:
            self.assertIs(kind_ranks_hold(CLOCK, "up", value), False)
            check_kept(self, kind_ranks_hold, CLOCK, "up", value)

    def test_by_name(self):
        self.assertIs(kind_ranks_hold(code=CLOCK, kind="up", value=(3, 2, 1, 0)), True)
        self.assertIs(kind_ranks_hold(value=None, kind="up", code=CLOCK), False)


class KindState(unittest.TestCase):
    def test_by_the_definition(self):
        none = 0
        for code, kinds in list(reference.kind_codes())[::2]:
            for kind in kinds:
                ranks = dict(zip(reference.levels(code[0]), reference.kind_ranks(code, kind)))
                for state, name in reference.table(code).items():
                    if name is None:
                        continue
                    for value in reference.asked_set(code, kind, name):
                        best = sorted(
                            reference.ways(code, state, value), key=lambda other: (-ranks[other], sum(other), other))
                        expected = best[0] if best else None
                        none += expected is None
                        self.assertTrue(same(kind_state(code, kind, state, value), expected))
        self.assertGreater(none, 50)

    def test_the_strongest_nearest_least(self):
        # By "up" (2, 0) is stronger than (0, 1), though not by "any".
        code = ((3, 1), (0, 1, None, None, 1, None, 2, None))
        self.assertEqual(kind_strengths(code, "up"), (2, 0, None, None, 1, None, 0, None))
        self.assertEqual(kind_state(code, "up", (0, 0), 1), (2, 0))
        self.assertEqual(told_state(code, (0, 0), 1), (0, 1))
        self.assertEqual(kind_state(GAP, "any", (0, 0), 1), (0, 1))

    def test_great_cards(self):
        for code, kinds in GREAT:
            for kind in kinds:
                state, name = reference.levels(code[0])[0], code[1][0]
                ranks = dict(zip(reference.levels(code[0]), kind_strengths(code, kind)))
                for value in asked(code, kind, name)[:3]:
                    best = sorted(reference.ways(code, state, value), key=lambda other: (-ranks[other], sum(other), other))
                    self.assertEqual(kind_state(code, kind, state, value), best[0] if best else None)

    def test_no_states(self):
        for state in ODD_VALUES + [(4,), (-1,), (True,), [0], 0, (0, 0), ("0",)]:
            for value in (0, 1, None, "no"):
                check_given(self, NoState, state, kind_state, CLOCK, "up", state, value)
            check_kept(self, kind_state, CLOCK, "up", state, 1)

    def test_what_is_not_asked(self):
        for value in ODD_VALUES + [0, 2, 3, "a", (1,), [1], "1"]:
            check_error(self, Unfit(), kind_state, CLOCK, "up", (0,), value)
            check_kept(self, kind_state, CLOCK, "up", (0,), value)
        for value in ODD_VALUES + [(0, 1), (1, 0), (True, 1), (0, False), [1, 1], (1, 1, 1), (2, 1)]:
            check_error(self, Unfit(), kind_state, SHORT, "name", (1,), value)
        self.assertIsNone(kind_state(SHORT, "name", (1,), (1, 1)))
        for value in (0, 1, None, 7):
            check_error(self, Unfit(), kind_state, GAP, "any", (1, 1), value)

    def test_order_of_errors(self):
        check_error(self, NoKind("kind"), kind_state, CLOCK, "ups", (9,), 9)
        check_error(self, NoKind("form"), kind_state, CLOCK, "buffer", (9,), 9)
        check_error(self, NoState((9,)), kind_state, CLOCK, "both", (9,), 9)
        check_error(self, Unfit(), kind_state, CLOCK, "both", (0,), 9)

    def test_by_name(self):
        self.assertEqual(kind_state(code=CLOCK, kind="up", state=(1,), value=2), (2,))
        self.assertEqual(kind_state(CLOCK, value=2, state=(0,), kind="both"), (2,))


class WhatHolds(unittest.TestCase):
    """[F6]."""

    def codes(self):
        return list(reference.small_codes())[::3] + [code for code, _ in reference.kind_codes()] + reference.GREAT[:2]

    def test_any_tells_strengths(self):
        for code in self.codes():
            self.assertEqual(kind_strengths(code, "any"), strengths(code))
            self.assertIs(kind_ranks_hold(code, "any", strengths(code)), True)

    def test_any_goes_to_told_states(self):
        for code, _ in list(reference.kind_codes())[::5]:
            for state, name in reference.table(code).items():
                for value in values_of(code):
                    if name is not None and name != value:
                        self.assertEqual(kind_state(code, "any", state, value), told_state(code, state, value))
                    else:
                        check_error(self, Unfit(), kind_state, code, "any", state, value)

    def test_fewer_values_are_never_worse(self):
        for code in self.codes():
            for kind in kinds_of(code):
                names = set(values_of(code))
                if all(reference.asked_set(code, kind, name) <= names for name in names):
                    for one, other in zip(kind_strengths(code, kind), strengths(code)):
                        self.assertTrue(one is None and other is None or one >= other)

    def test_two_and_three_values(self):
        seen = set()
        for code in self.codes():
            many = len(values_of(code))
            if "up" in kinds_of(code) and many < 4:
                seen.add(many)
                self.assertEqual(kind_strengths(code, "both"), strengths(code))
                if many == 2:
                    self.assertEqual(kind_strengths(code, "up"), strengths(code))
        self.assertEqual(seen, {2, 3})

    def test_tuples_of_one_item(self):
        seen = 0
        for code in self.codes():
            if "name" in kinds_of(code) and len(code[1][0]) == 1:
                seen += 1
                self.assertEqual(kind_strengths(code, "name"), strengths(code))
                self.assertEqual(kind_strengths(code, "buffer"), strengths(code))
        self.assertGreater(seen, 10)


if __name__ == "__main__":
    unittest.main()
