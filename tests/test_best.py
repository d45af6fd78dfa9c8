"""[E1], [E2] and, of these, [E6]: best codes."""

import unittest

import reference
from onlyhigher.best import best_code
from onlyhigher.codes import code_error, values_of
from onlyhigher.errors import TooMany
from onlyhigher.strengths import strengths
from samples import check_error, check_kept


class BestCode(unittest.TestCase):
    def check(self, card, many, least, expected):
        found = best_code(card, many, least)
        self.assertIs(found is not None, expected, (card, many, least))
        if found is not None:
            self.assertIsNone(code_error(found))
            self.assertEqual(found[0], card)
            self.assertEqual(values_of(found), tuple(range(many)))
            self.assertEqual(repr(found[1][0]), "0")
            self.assertGreaterEqual(reference.strength_at(found, (0,) * len(card), range(many)), least)
            self.assertGreaterEqual(strengths(found)[0], least)

    def test_against_all_codes(self):
        for card in reference.SMALL_CARDS:
            for many in (2, 3, 4):
                if (many + 1) ** (len(reference.levels(card)) - 1) < 20000:
                    best = reference.greatest_strength(card, many)
                    for least in range(1, sum(card) + 3):
                        self.check(card, many, least, least <= best)

    def test_the_greatest_strengths(self):
        # For each card the greatest strengths with 2, 3 and 4 values.
        known = {
            (6,): (6, 3, 2), (7,): (7, 3, 2), (1, 3): (4, 2, 2), (3, 1): (4, 2, 2), (2, 2): (4, 3, 2),
            (1, 1, 1): (3, 2, 2), (1, 1): (2, 1, 1), (2, 1): (3, 2, 1), (1,): (1, 0, 0)}
        for card, row in known.items():
            for many, best in zip((2, 3, 4), row):
                for least in (1, 2, 3, 4, best, best + 1, 50, 10 ** 399):
                    if least > 0:
                        self.check(card, many, least, least <= best)

    def test_two_values_turn_by_turn(self):
        for card in reference.SMALL_CARDS:
            self.check(card, 2, sum(card), True)
            self.check(card, 2, sum(card) + 1, False)

    def test_cards_of_nine_states_and_of_more(self):
        self.check((2, 2), 4, 2, True)
        for card in ((4, 1), (1, 4), (2, 3), (1, 1, 2), (1, 1, 1, 1), (7, 7, 7), (1, 1, 1, 3, 3, 3), (1, 5), (3, 3)):
            for many, least in ((2, 1), (4, 1), (3, 2), (2, 10 ** 399)):
                check_error(self, TooMany(9), best_code, card, many, least)

    def test_by_name_and_kept(self):
        self.assertEqual(best_code(card=(1,), many=2, least=1), ((1,), (0, 1)))
        self.assertIsNone(best_code((1,), least=1, many=3))
        check_error(self, TooMany(9), best_code, least=1, many=2, card=(4, 1))
        check_kept(self, best_code, (2, 1), 3, 2)
        check_kept(self, best_code, (2, 1), 3, 9)


if __name__ == "__main__":
    unittest.main()
