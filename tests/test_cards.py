"""[A6] to [A8]: cards, states, places, and which state is above which."""

import itertools
import unittest

from onlyhigher.cards import card_error, is_above, place_of, rises, room, states
from onlyhigher.errors import NoState
from samples import ODD_VALUES, check_error, check_given, check_kept, same

CARDS = [
    (1,), (7,), (1, 1), (1, 2), (2, 1), (7, 1), (3, 1, 2), (7, 7, 7), (1, 1, 1, 1, 1, 1), (1, 7, 1, 7, 1), (2, 1, 3),
    (1, 1, 1, 7, 1, 3), (2, 2, 2, 2, 2, 1),
]


def all_levels(card):
    return tuple(itertools.product(*[range(top + 1) for top in card]))


class CardError(unittest.TestCase):
    def test_cards(self):
        for card in CARDS:
            self.assertIsNone(card_error(card))

    def test_form(self):
        for value in (None, True, 1, "1", "", [], [1], [1, 2], {}, {1: 1}, (), (1,) * 7, (1,) * 4000, (0,) * 7, ([],) * 7):
            self.assertEqual(card_error(value), "form")

    def test_cells(self):
        self.assertEqual([card_error((1,) * many) for many in (0, 1, 6, 7)], ["form", None, None, "form"])

    def test_tops(self):
        for top in (1, 2, 6, 7):
            self.assertIsNone(card_error((top,)))
            self.assertIsNone(card_error((1, top)))
        for top in (0, 8, -1, 10 ** 399, True, False, None, "1", (1,), [1], {}):
            self.assertTrue(same(card_error((top,)), ("top", 0)))
            self.assertTrue(same(card_error((1, top)), ("top", 1)))
            self.assertTrue(same(card_error((7, 1, 1, 1, 1, top)), ("top", 5)))

    def test_many(self):
        self.assertIsNone(card_error((7, 7, 7)))
        self.assertIsNone(card_error((1, 1, 1, 3, 3, 3)))
        for card in ((7, 7, 7, 1), (1, 7, 7, 7), (7,) * 6, (2,) * 6, (7, 7, 1, 4), (2, 2, 2, 2, 6)):
            self.assertEqual(card_error(card), "many")

    def test_many_is_counted(self):
        for card in itertools.product((1, 2, 3, 6, 7), repeat=4):
            expected = "many" if len(all_levels(card)) > 512 else None
            self.assertEqual(card_error(card), expected)

    def test_order_of_faults(self):
        self.assertEqual(card_error((0,) * 7), "form")
        self.assertEqual(card_error((7, 7, 7, 7, 8)), ("top", 4))
        self.assertEqual(card_error((7, 0, 7, 8, 7)), ("top", 1))
        self.assertEqual(card_error((True, 8)), ("top", 0))

    def test_odd_values(self):
        for value in ODD_VALUES:
            self.assertIsNotNone(card_error(value))
            check_kept(self, card_error, value)
        self.assertIsNone(card_error(value=(1, 2)))
        self.assertEqual(card_error(value=()), "form")


class States(unittest.TestCase):
    def test_states(self):
        for card in CARDS:
            self.assertTrue(same(states(card), all_levels(card)))
            self.assertEqual(list(states(card)), sorted(states(card)))
            self.assertEqual((states(card)[0], states(card)[-1]), ((0,) * len(card), card))
        self.assertEqual(states((1,)), ((0,), (1,)))
        self.assertEqual(len(states((7, 7, 7))), 512)

    def test_by_name_and_kept(self):
        self.assertEqual(states(card=(1,)), ((0,), (1,)))
        check_kept(self, states, (1, 2))


class PlaceOf(unittest.TestCase):
    def test_places(self):
        for card in CARDS:
            for place, state in enumerate(states(card)):
                self.assertTrue(same(place_of(card, state), place))

    def test_no_states(self):
        card = (1, 2)
        for state in [(0,), (0, 0, 0), (2, 0), (0, 3), (-1, 0), (0, -1), (True, 0), (0, True), (False, False), [0, 0], (0, None),
                      (0, "0"), (0, (1,)), ((0, 0),), (0, [1]), {0: 1}, "00", 0, (10 ** 399, 0), ([], {})]:
            check_error(self, NoState(state), place_of, card, state)
            check_given(self, NoState, state, place_of, card, state)

    def test_odd_values(self):
        for value in ODD_VALUES:
            check_given(self, NoState, value, place_of, (7, 7), value)
            check_kept(self, place_of, (7, 7), value)

    def test_by_name(self):
        self.assertEqual(place_of(card=(1, 2), state=(1, 0)), 3)
        self.assertEqual(place_of((1, 2), state=(1, 2)), 5)
        check_error(self, NoState((0,)), place_of, state=(0,), card=(1, 2))


class AboveRisesRoom(unittest.TestCase):
    def test_is_above(self):
        for card in ((1,), (3,), (1, 2), (2, 1, 1)):
            for one, other in itertools.product(states(card), repeat=2):
                expected = one != other and not any(high < low for low, high in zip(one, other))
                self.assertIs(is_above(one, other), expected)

    def test_rises(self):
        for one, other in itertools.product(states((2, 1, 3)), repeat=2):
            if one == other or is_above(one, other):
                steps = sum(high - low for low, high in zip(one, other))
                self.assertTrue(same(rises(one, other), steps))
        self.assertEqual(rises((0, 0, 0), (7, 7, 7)), 21)

    def test_room(self):
        for card in CARDS:
            self.assertEqual(room(card, (0,) * len(card)), card)
            self.assertEqual(room(card, card), (0,) * len(card))
        self.assertTrue(same(room((3, 7, 1), (1, 7, 0)), (2, 0, 1)))

    def test_by_name_and_kept(self):
        self.assertIs(is_above(state=(0, 1), other=(1, 1)), True)
        self.assertIs(is_above(other=(0, 1), state=(1, 1)), False)
        self.assertEqual(rises(state=(0, 1), other=(1, 2)), 2)
        self.assertEqual(room(card=(1, 2), state=(0, 1)), (1, 1))
        for call in (is_above, rises, room):
            check_kept(self, call, (0, 1), (1, 1))


if __name__ == "__main__":
    unittest.main()
