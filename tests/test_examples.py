"""The examples of the document, row by row."""

import unittest

from samples import run_examples

PART_A = """
    >>> from onlyhigher.values import is_value, value_rank
    >>> is_value(0), is_value("up"), is_value((3, "ab")), is_value((3,)), is_value(True), is_value(1000), is_value("Up"), is_value(()), is_value(((3,),))
    (True, True, True, True, False, False, False, False, False)
    >>> value_rank(7), value_rank("up"), value_rank((3, "ab"))
    ((0, 7), (1, 'up'), (2, ((0, 3), (1, 'ab'))))
    >>> sorted([(3, "ab"), "up", (3,), 7, "at", 12, ("a", 0)], key=value_rank)
    [7, 12, 'at', 'up', (3,), (3, 'ab'), ('a', 0)]

    >>> from onlyhigher.cards import card_error, is_above, place_of, rises, room, states
    >>> card_error((1, 2)), card_error([1, 2]), card_error(()), card_error((1, 8, True)), card_error((7, 7, 7)), card_error((7, 7, 7, 1)), card_error((1,) * 7)
    (None, 'form', 'form', ('top', 1), None, 'many', 'form')
    >>> states((1, 2)), place_of((1, 2), (1, 0)), place_of((7, 7, 7), (7, 7, 6))
    (((0, 0), (0, 1), (0, 2), (1, 0), (1, 1), (1, 2)), 3, 510)
    >>> place_of((1, 2), (2, 0))
    raises NoState((2, 0))
    >>> place_of((1, 2), (True, 0))
    raises NoState((True, 0))

    >>> is_above((0, 1), (1, 1)), is_above((0, 1), (0, 1)), is_above((0, 1), (1, 0)), is_above((1, 1), (0, 1))
    (True, False, False, False)
    >>> rises((0, 1), (1, 2)), rises((0, 1), (0, 1)), room((1, 2), (0, 1)), room((3, 7, 1), (0, 0, 0))
    (2, 0, (1, 1), (3, 7, 1))
"""


class Examples(unittest.TestCase):
    def test_part_a(self):
        run_examples(self, PART_A, {})


if __name__ == "__main__":
    unittest.main()
