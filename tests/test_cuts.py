"""[G1] to [G7]: safe ways, safe strengths, and safe orders."""

import itertools
import random
import unittest

import reference
from onlyhigher.codes import values_of
from onlyhigher.cuts import safe_orders, safe_ranks_hold, safe_strengths, safe_way, way_error
from onlyhigher.errors import NoState, NoValue, Unfit
from onlyhigher.strengths import strengths
from samples import ODD_VALUES, check_error, check_given, check_kept, same

SMALL = ((1, 1), (0, 0, None, 1))
TWICE = ((1, 1, 1), (0, 3, 2, 1, 1, 2, 3, 0))
LINE = ((6,), (0, 1, None, 0, 2, 0, 1))
GREAT = reference.GREAT + [
    ((1, 1, 1, 3, 3, 3), reference.sums_labels((1, 1, 1, 3, 3, 3), 2)),
    ((7, 7, 7), tuple(int(sum(state) > 10) for state in reference.levels((7, 7, 7)))),
    ((7, 3, 1, 1, 1, 1), tuple(at if at < 64 else 0 for at in range(512))),
    ((7, 3, 1, 1, 1, 1), tuple(max(0, at - 448) for at in range(512))),
]


def codes():
    """Small codes, some of them with long safe ways."""
    yield from list(reference.small_codes())[::4]
    for seed, card in enumerate([(2, 2), (3, 2), (1, 1, 2), (2, 1, 1), (1, 1, 1, 1)]):
        for names in ([0, 1], [0, 1, "c"]):
            yield from reference.some_codes(card, names, 8, seed, blanks=0)
            # With one label for most states ways may be long.
            yield from reference.some_codes(card, names + [0] * 3, 8, seed + 40, blanks=0)
            yield from reference.some_codes(card, names + [0] * 3, 5, seed + 80, blanks=1)


class WayError(unittest.TestCase):
    def test_by_the_definition(self):
        for code in list(codes())[::5]:
            names = reference.table(code)
            for state, value in itertools.product(names, values_of(code)):
                if names[state] is not None and names[state] != value:
                    for way in reference.safe_ways(code, state, value):
                        self.assertIsNone(way_error(code, way))

    def test_all_ways_of_three(self):
        for code in (SMALL, ((1, 1), (0, 1, 2, 0)), ((2,), (0, None, 1)), ((1, 1), (0, 1, 2, 1)), ((2,), (0, 0, 1))):
            states, names = reference.levels(code[0]), reference.table(code)
            for way in itertools.chain(itertools.product(states, repeat=2), itertools.product(states, repeat=3)):
                expected = None
                rises = [at for at in range(1, len(way)) if not reference.one_rise(way[at - 1], way[at])]
                strange = [at for at, state in enumerate(way)
                           if names[state] is None or names[state] not in (names[way[0]], names[way[-1]])]
                if rises:
                    expected = ("rise", rises[0])
                elif strange:
                    expected = ("label", strange[0])
                elif names[way[0]] == names[way[-1]]:
                    expected = "end"
                self.assertTrue(same(way_error(code, way), expected), (code, way))

    def test_form(self):
        for value in ODD_VALUES + [[], ((0,),), [(0,), (1,)], "01", {(0,): 1, (1,): 2}, ((0,), (1,))[:1]]:
            if not isinstance(value, tuple) or len(value) < 2:
                self.assertEqual(way_error(LINE, value), "form")
            check_kept(self, way_error, LINE, value)
        self.assertEqual(way_error(LINE, (0,) * 4000), ("state", 0))

    def test_states(self):
        way = ((3,), (4,), (5,), (6,))
        for item in ODD_VALUES + [(7,), (-1,), (True,), [4], 4, "4", (4, 0), ((4,),), (4.0,)][:-1]:
            for place in range(4):
                value = way[:place] + (item,) + way[place + 1:]
                self.assertTrue(same(way_error(LINE, value), ("state", place)))
        self.assertEqual(way_error(LINE, ((0,), None, (9,))), ("state", 1))

    def test_rises(self):
        self.assertEqual(way_error(LINE, ((0,), (0,))), ("rise", 1))
        self.assertEqual(way_error(LINE, ((0,), (2,))), ("rise", 1))
        self.assertEqual(way_error(LINE, ((1,), (0,))), ("rise", 1))
        self.assertEqual(way_error(LINE, ((3,), (4,), (6,))), ("rise", 2))
        self.assertEqual(way_error(LINE, ((3,), (4,), (4,), (4,))), ("rise", 2))
        self.assertEqual(way_error(TWICE, ((0, 0, 0), (0, 1, 1))), ("rise", 1))
        self.assertEqual(way_error(TWICE, ((0, 0, 1), (0, 1, 0))), ("rise", 1))
        self.assertEqual(way_error(((2, 2), (0, 1, 0) * 3), ((1, 1), (2, 1), (1, 2))), ("rise", 2))
        # One level up by two, or one up and another one down, is no rise.
        self.assertEqual(way_error(((2, 2), (0, 1, 0) * 3), ((0, 1), (2, 0))), ("rise", 1))

    def test_labels(self):
        self.assertIsNone(way_error(LINE, ((0,), (1,))))
        self.assertEqual(way_error(LINE, ((0,), (1,), (2,))), ("label", 1))
        self.assertEqual(way_error(LINE, ((1,), (2,), (3,))), ("label", 1))
        self.assertEqual(way_error(LINE, ((2,), (3,))), ("label", 0))
        self.assertEqual(way_error(LINE, ((2,), (3,), (4,))), ("label", 0))
        self.assertEqual(way_error(LINE, ((1,), (2,))), ("label", 1))
        self.assertIsNone(way_error(LINE, ((3,), (4,))))
        self.assertEqual(way_error(LINE, ((3,), (4,), (5,))), ("label", 1))
        self.assertEqual(way_error(LINE, ((3,), (4,), (5,), (6,))), ("label", 1))
        self.assertEqual(way_error(((3,), (0, None, None, 0)), ((1,), (2,))), ("label", 0))

    def test_ends(self):
        code = ((4,), (0, 0, 1, 0, 1))
        self.assertEqual(way_error(code, ((0,), (1,))), "end")
        self.assertIsNone(way_error(code, ((0,), (1,), (2,))))
        self.assertEqual(way_error(code, ((0,), (1,), (2,), (3,))), ("label", 2))
        self.assertIsNone(way_error(code, ((0,), (1,), (2,), (3,), (4,))))
        self.assertEqual(way_error(code, ((2,), (3,), (4,))), ("label", 1))

    def test_of_several_faults_the_first_kind(self):
        self.assertEqual(way_error(LINE, ((2,), (0,), (9,))), ("state", 2))
        self.assertEqual(way_error(LINE, ((2,), (3,), (3,))), ("rise", 2))
        self.assertEqual(way_error(TWICE, ((0, 0, 0), (0, 0, 1), (1, 1, 1), (2, 0, 0))), ("state", 3))
        self.assertEqual(way_error(SMALL, ((0, 0), (1, 0), (1, 0))), ("rise", 2))
        self.assertEqual(way_error(SMALL, [(0, 0), (0, 9)]), "form")

    def test_by_name(self):
        self.assertEqual(way_error(code=LINE, value=((0,), (1,), (2,))), ("label", 1))
        self.assertIsNone(way_error(value=((0,), (1,)), code=LINE))


class SafeStrengths(unittest.TestCase):
    def test_by_the_definition(self):
        greatest = []
        for code in codes():
            expected = reference.safe_ranks(code)
            self.assertTrue(same(safe_strengths(code), expected), code)
            self.assertIs(safe_ranks_hold(code, expected), True)
            greatest.append(max(rank for rank in expected if rank is not None))
        for many in (0, 1, 2, 3):
            self.assertGreater(greatest.count(many), 5)

    def test_a_way_that_goes_on_behind_the_newer_value(self):
        # From (1, 0) the value 1 is at the last rise alone, and the state between has to read 0.
        code = ((2, 1), (0, 1, 0, None, 0, 1))
        self.assertEqual(safe_strengths(code), reference.safe_ranks(code))
        self.assertEqual(safe_strengths(code), (1, 0, 1, None, 1, 0))

    def test_great_cards(self):
        for code in GREAT:
            found = safe_strengths(code)
            self.assertTrue(self.fits(code, found))
            self.assertIs(safe_ranks_hold(code, found), True)
            for rank, other in zip(found, strengths(code)):
                self.assertTrue(rank is None and other is None or 0 <= rank <= other)
        self.assertEqual(safe_strengths(GREAT[0])[0], 14)

    def fits(self, code, row):
        """Each item is looked through with the states that the safe ways over states of one item come to."""
        names, places = reference.table(code), dict(zip(reference.levels(code[0]), row))

        def reached(state, least):
            seen, todo, ends = {state}, [state], set()
            for here in todo:
                for cell, top in enumerate(code[0]):
                    over = here[:cell] + (here[cell] + 1,) + here[cell + 1:]
                    if here[cell] < top and names[over] is not None and places[over] >= least and over not in seen:
                        seen.add(over)
                        if names[over] == names[state]:
                            todo.append(over)
                        ends.add(names[over])
            return ends - {names[state]}

        others = set(names.values()) - {None}
        for state, name in names.items():
            if (name is None) != (places[state] is None):
                return False
            if name is not None and reached(state, places[state]) == others - {name}:
                return False
            if name is not None and places[state] and reached(state, places[state] - 1) != others - {name}:
                return False
        return True

    def test_by_name_and_kept(self):
        self.assertEqual(safe_strengths(code=SMALL), (1, 1, None, 0))
        check_kept(self, safe_strengths, TWICE)


class SafeRanksHold(unittest.TestCase):
    def test_all_rows(self):
        for code in (SMALL, ((3,), (0, 1, 0, 1)), ((1, 1), (0, 1, 1, 0)), ((3,), (0, None, 1, 0)), ((1, 1), (0, 1, 2, 0))):
            right = safe_strengths(code)
            for row in itertools.product((None, 0, 1, 2, 3), repeat=4):
                self.assertIs(safe_ranks_hold(code, row), row == right)

    def test_other_kinds(self):
        right = safe_strengths(SMALL)
        for value in ODD_VALUES + [list(right), right[:-1], right + (0,), right + (None,), (right,), dict(enumerate(right)),
                                   (True, 1, None, 0), (1, 1, None, False), (1, 1, False, 0), (1, 1, 0, 0), ("1", 1, None, 0),
                                   (1, (1,), None, 0), (-1, 1, None, 0), (10 ** 399, 1, None, 0), (1, 1, None, None)]:
            self.assertIs(safe_ranks_hold(SMALL, value), False)
            check_kept(self, safe_ranks_hold, SMALL, value)
        self.assertIs(safe_ranks_hold(TWICE, strengths(TWICE)), False)

    def test_by_name(self):
        self.assertIs(safe_ranks_hold(code=SMALL, value=(1, 1, None, 0)), True)
        self.assertIs(safe_ranks_hold(value=(1, 1, None, 0), code=TWICE), False)


class SafeWay(unittest.TestCase):
    def check(self, code, ranks, state, value):
        way = safe_way(code, state, value)
        if way is None:
            self.assertEqual(ranks[state], 0)
            return way
        self.assertIsNone(way_error(code, way))
        self.assertTrue(same(way[0], state))
        self.assertEqual(reference.table(code)[way[-1]], value)
        self.assertTrue(all(ranks[step] >= ranks[state] - 1 for step in way))
        return way

    def test_by_the_definition(self):
        long = 0
        for code in codes():
            ranks = dict(zip(reference.levels(code[0]), reference.safe_ranks(code)))
            for state, name in reference.table(code).items():
                for value in values_of(code):
                    if name is None or name == value:
                        check_error(self, Unfit(), safe_way, code, state, value)
                        continue
                    way = self.check(code, ranks, state, value)
                    self.assertIs(way is None, not reference.safe_ways(code, state, value))
                    long += way is not None and len(way) > 3
        self.assertGreater(long, 20)

    def test_it_turns_for_strength(self):
        # 1 is one rise away at (0, 0, 1), but nothing comes behind that: the way has to turn from one cell to another.
        names = {(0, 0, 0): 0, (0, 0, 1): 1, (1, 0, 0): 0, (1, 1, 0): 1, (2, 1, 0): 0, (2, 2, 0): 1}
        code = ((2, 2, 1), tuple(names.get(state) for state in reference.levels((2, 2, 1))))
        ranks = dict(zip(reference.levels(code[0]), safe_strengths(code)))
        self.assertEqual([ranks[state] for state in sorted(names)], [3, 0, 3, 2, 1, 0])
        self.assertEqual(safe_way(code, (0, 0, 0), 1), ((0, 0, 0), (1, 0, 0), (1, 1, 0)))

    def test_great_cards(self):
        for code in GREAT:
            ranks = dict(zip(reference.levels(code[0]), safe_strengths(code)))
            for state, name in list(reference.table(code).items())[::101]:
                for value in values_of(code)[:2]:
                    if name is not None and name != value:
                        self.check(code, ranks, state, value)

    def test_errors(self):
        for state in ODD_VALUES + [(0,), (0, 2), (2, 0), (True, 0), [0, 0], (0, 0, 0), (0, "0")]:
            for value in (0, 1, 7, None):
                check_given(self, NoState, state, safe_way, SMALL, state, value)
            check_kept(self, safe_way, SMALL, state, 1)
        for value in ODD_VALUES + [2, "a", (0,), (1,), [1]]:
            for state in ((0, 0), (1, 0), (1, 1)):
                check_given(self, NoValue, value, safe_way, SMALL, state, value)
            check_kept(self, safe_way, SMALL, (0, 0), value)
        for state, value in (((1, 0), 0), ((1, 0), 1), ((0, 0), 0), ((1, 1), 1)):
            check_error(self, Unfit(), safe_way, SMALL, state, value)

    def test_order_of_errors(self):
        check_error(self, NoState((0, 2)), safe_way, SMALL, (0, 2), 7)
        check_error(self, NoValue(7), safe_way, SMALL, (1, 0), 7)

    def test_by_name(self):
        self.assertEqual(safe_way(code=SMALL, state=(0, 0), value=1), ((0, 0), (0, 1), (1, 1)))
        self.assertIsNone(safe_way(TWICE, value=0, state=(1, 0, 0)))


class SafeOrders(unittest.TestCase):
    def test_by_the_definition(self):
        many = []
        for code in codes():
            found = safe_orders(code)
            self.assertTrue(same(found, reference.orders_that_do(code)), code)
            many.append(len(found))
        for number in (0, 1, 2, 6):
            self.assertGreater(many.count(number), 3)

    def test_three_and_more_cells(self):
        pick = random.Random(4)
        some = 0
        for card in [(1, 1, 1), (1, 2, 1), (1, 1, 1, 1), (2, 1, 1, 1)]:
            for _ in range(60):
                # Cells that are raised in one order alone keep a label that they have in common.
                cell = pick.randrange(len(card))
                labels = [0 if state[cell] == 0 or pick.random() < 0.2 else 1 for state in reference.levels(card)]
                labels = tuple(None if at and pick.random() < 0.1 else name for at, name in enumerate(labels))
                if len(set(labels) - {None}) > 1:
                    found = safe_orders((card, labels))
                    self.assertTrue(same(found, reference.orders_that_do((card, labels))))
                    some += 0 < len(found) < len(list(itertools.permutations(card)))
        self.assertGreater(some, 10)

    def test_one_cell(self):
        self.assertEqual(safe_orders(((3,), (0, 1, 0, 1))), ((0,),))
        self.assertEqual(safe_orders(((3,), (0, None, 0, 1))), ())
        self.assertEqual(safe_orders(((3,), (0, 0, 2, 1))), ())
        self.assertEqual(safe_orders(((3,), (0, 0, 1, 1))), ((0,),))

    def test_the_strongest_states_alone_count(self):
        # 1 is one rise away at (0, 1), but (2, 0) is stronger, and the way to it goes over a state without label.
        self.assertEqual(safe_orders(((3, 1), (0, 1, None, None, 1, None, 0, None))), ())
        self.assertEqual(safe_orders(((3, 1), (0, 1, 0, None, 1, None, 0, None))), ((0, 1), (1, 0)))

    def test_five_cells(self):
        # 1 is read at the full state alone, and the last cell may not rise ahead of the third one.
        card = (1, 1, 1, 1, 1)
        code = (card, tuple(None if state[4] > state[2] else int(state == card) for state in reference.levels(card)))
        found = safe_orders(code)
        self.assertTrue(same(found, reference.orders_that_do(code)))
        self.assertTrue(0 < len(found) < 120)

    def test_six_cells(self):
        labels = [1] * 64
        # Each state on the way by this order, and no other one, reads 0, up to the full state.
        order = (3, 1, 5, 0, 4, 2)
        for at, state in enumerate(reference.way_by(order, (0,) * 6, (1,) * 6)[:-1]):
            labels[reference.levels((1,) * 6).index(state)] = 0
        code = ((1,) * 6, tuple(None if name else 0 for name in labels[:-1]) + (1,))
        self.assertEqual(safe_orders(code), (order,))
        self.assertEqual(safe_orders(((1,) * 6, reference.sums_labels((1,) * 6, 2))), reference.orders_that_do(
            ((1,) * 6, reference.sums_labels((1,) * 6, 2))))

    def test_great_cards(self):
        every = tuple(itertools.permutations(range(6)))
        self.assertEqual(safe_orders(GREAT[4]), every)
        self.assertEqual(safe_orders(GREAT[5]), tuple(itertools.permutations(range(3))))
        self.assertEqual(safe_orders(GREAT[0]), tuple(itertools.permutations(range(3))))
        for code in GREAT[1:4] + GREAT[6:]:
            self.assertEqual(safe_orders(code), ())
        # Each other cell has to rise ahead of the first one.
        card = (1, 1, 1, 3, 3, 3)
        code = (card, tuple(
            0 if state[0] == 0 else 1 if state[1:] == card[1:] else None for state in reference.levels(card)))
        self.assertEqual(safe_orders(code), tuple(order for order in every if order[-1] == 0))

    def test_by_name_and_kept(self):
        self.assertEqual(safe_orders(code=SMALL), ((1, 0),))
        check_kept(self, safe_orders, SMALL)


class WhatHolds(unittest.TestCase):
    """[G7]."""

    def test_never_above_the_strength(self):
        for code in codes():
            for one, other in zip(safe_strengths(code), strengths(code)):
                self.assertTrue(one is None and other is None or one <= other)

    def test_codes_of_single_rises(self):
        seen = 0
        for code in list(codes()) + [((3, 3), reference.sums_labels((3, 3), 2)), ((2, 2, 2), reference.sums_labels((2, 2, 2), 2))]:
            ranks, names = dict(zip(reference.levels(code[0]), strengths(code))), reference.table(code)
            if all(any(reference.one_rise(state, other) and ranks[other] >= ranks[state] - 1
                       for other in reference.ways(code, state, value))
                   for state, name in names.items() if name is not None and ranks[state] >= 1
                   for value in values_of(code) if value != name):
                seen += 1
                self.assertEqual(safe_strengths(code), strengths(code))
        self.assertGreater(seen, 10)

    def test_behind_a_cut(self):
        for code in list(codes())[::2]:
            names, ranks = reference.table(code), dict(zip(reference.levels(code[0]), safe_strengths(code)))
            for state, name in names.items():
                for value in values_of(code):
                    way = safe_way(code, state, value) if name is not None and name != value else None
                    for step in way or ():
                        self.assertIn(names[step], (name, value))
                        self.assertGreaterEqual(ranks[step], ranks[state] - 1)

    def test_safe_orders_keep_the_strength(self):
        seen = 0
        for code in codes():
            if safe_orders(code):
                for one, other in zip(safe_strengths(code), strengths(code)):
                    seen += bool(other)
                    self.assertTrue(not other or one >= 1)
        self.assertGreater(seen, 50)


if __name__ == "__main__":
    unittest.main()
