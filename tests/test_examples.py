"""The examples of the document, row by row."""

import os
import unittest

from samples import run_examples

PART_A = r"""
    >>> from onlyhigher.values import is_value, value_rank
    >>> is_value(0), is_value("up"), is_value((3, "ab")), is_value((3,)), is_value(True), is_value(1000), is_value("Up"), is_value(()), is_value(((3,),))
    (True, True, True, True, False, False, False, False, False)
    >>> value_rank(7), value_rank("up"), value_rank((3, "ab"))
    ((0, 7), (1, 'up'), (2, ((0, 3), (1, 'ab'))))
    >>> sorted([(3, "ab"), "up", (3,), 7, "at", 12, ("a", 0)], key=value_rank)
    [7, 12, 'at', 'up', (3,), (3, 'ab'), ('a', 0)]

    >>> from onlyhigher.cards import card_error, is_above, place_of, rises, room, states
    >>> card_error((1, 2)), card_error([1, 2]), card_error(()), card_error((1, 8, True)), card_error((7, 7, 7)), card_error((7, 7, 7, 1)), card_error((1,) * 7)
    (None, 'form', 'form', ('top', 1), None, 'many', 'form')
    >>> states((1, 2)), place_of((1, 2), (1, 0)), place_of((7, 7, 7), (7, 7, 6))
    (((0, 0), (0, 1), (0, 2), (1, 0), (1, 1), (1, 2)), 3, 510)
    >>> place_of((1, 2), (2, 0))
    raises NoState((2, 0))
    >>> place_of((1, 2), (True, 0))
    raises NoState((True, 0))

    >>> is_above((0, 1), (1, 1)), is_above((0, 1), (0, 1)), is_above((0, 1), (1, 0)), is_above((1, 1), (0, 1))
    (True, False, False, False)
    >>> rises((0, 1), (1, 2)), rises((0, 1), (0, 1)), room((1, 2), (0, 1)), room((3, 7, 1), (0, 0, 0))
    (2, 0, (1, 1), (3, 7, 1))

    >>> from onlyhigher.codes import code_error, label, states_with, values_of
    >>> twice = ((1, 1, 1), (0, 1, 2, 3, 3, 2, 1, 0))
    >>> mixed = ((1, 2), ("up", None, (3, "ab"), "up", 7, (3,)))
    >>> code_error(twice), code_error(mixed), code_error(twice + ((),)), code_error(((1, 9), ())), code_error(((1,), [0, 1])), code_error(((1,), (0, 1, 0)))
    (None, None, 'form', ('card', ('top', 1)), 'labels', 'labels')
    >>> code_error(((1,), (None, ()))), code_error(((1,), (None, 1))), code_error(((1,), (0, None))), code_error(((1,), (True, 1)))
    (('label', 1), 'empty', 'few', ('label', 0))
    >>> label(twice, (0, 1, 1)), label(mixed, (0, 1)), values_of(twice), values_of(mixed)
    (3, None, (0, 1, 2, 3), (7, 'up', (3,), (3, 'ab')))
    >>> states_with(twice, 3), states_with(mixed, "up"), states_with(twice, 9), states_with(mixed, None), states_with(twice, True)
    (((0, 1, 1), (1, 0, 0)), ((0, 0), (1, 0)), (), (), ())
    >>> label(twice, (0, 1))
    raises NoState((0, 1))

    >>> from onlyhigher.codetexts import code_text, read_code
    >>> code_text(twice), code_text(mixed)
    ('card 1 1 1\n0 1 2 3 3 2 1 0', 'card 1 2\nup - (3,ab) up 7 (3)')
    >>> read_code("card 1\n0 -")
    raises BadText()
    >>> read_code(code_text(mixed)) == mixed, read_code("card 2\nno yes no")
    (True, ((2,), ('no', 'yes', 'no')))
    >>> read_code("card 1\n00 1")
    raises BadText()
"""

PART_B = """
    >>> from onlyhigher.strengths import lot_strengths, ranks_hold, strength, strengths
    >>> twice = ((1, 1, 1), (0, 3, 2, 1, 1, 2, 3, 0))
    >>> turns = ((3,), ("a", "b", "a", "b"))
    >>> gap = ((1, 1), (0, 1, 1, None))
    >>> strengths(twice), strengths(turns), strengths(gap)
    ((2, 1, 1, 0, 1, 0, 0, 0), (3, 2, 1, 0), (1, 0, 0, None))
    >>> strength(twice, (0, 0, 0)), strength(gap, (1, 0))
    (2, 0)
    >>> strength(gap, (0, 2))
    raises NoState((0, 2))
    >>> strength(gap, (1, 1))
    raises Unfit()
    >>> ranks_hold(turns, (3, 2, 1, 0)), ranks_hold(turns, (2, 2, 1, 0)), ranks_hold(turns, [3, 2, 1, 0]), ranks_hold(gap, (True, 0, 0, None)), ranks_hold(gap, (1, 0, 0, 0))
    (True, False, False, False, False)

    >>> lot_strengths(twice, (0, 1)), lot_strengths(twice, (1, 2, 3)), lot_strengths(turns, ("a", "b"))
    ((2, 1, 1, 1, 1, 0, 0, 0), (2, 1, 1, 0, 1, 0, 0, 0), (3, 2, 1, 0))
    >>> lot_strengths(twice, (1, 7))
    raises NoValue(7)
    >>> lot_strengths(twice, (1, 0))
    raises Unfit()

    >>> from onlyhigher.plays import play, rises_needed, told_foe, told_state
    >>> told_state(twice, (0, 0, 0), 1), told_state(twice, (0, 0, 1), 0), told_state(twice, (0, 1, 1), 2)
    ((1, 0, 0), (1, 1, 1), None)
    >>> told_foe(twice, (0, 0, 0)), told_foe(twice, (0, 1, 1)), told_foe(turns, (3,)), told_state(gap, (0, 0), 1)
    (1, 2, 'a', (0, 1))
    >>> told_state(twice, (0, 1, 1), 1)
    raises Unfit()
    >>> told_state(gap, (1, 1), "b")
    raises NoValue('b')

    >>> play(twice, (1, 1, 0, 2)), play(turns, ("a", "b", "a")), play(gap, ())
    (((1, 0, 0), (1, 0, 0), (1, 1, 1)), ((0,), (1,), (2,)), ())
    >>> play(gap, (1, 0, 5))
    raises NoValue(5)

    >>> rises_needed(twice, (0, 0, 0), 1), rises_needed(twice, (0, 0, 0), 2), rises_needed(twice, (0, 0, 0), 3), rises_needed(gap, (1, 0), 0)
    (1, 3, None, 0)
    >>> near = ((2, 1), ("a", "b", "b", "c", "a", "c"))
    >>> strengths(near), rises_needed(near, (0, 0), 1)
    ((1, 0, 1, 0, 0, 0), 2)
"""

PART_C = """
    >>> from onlyhigher.groups import characters, group_error, group_members, kills, span, summed
    >>> [group_error(value) for value in ((4,), (2, 2), [4], (), (4, 1), (True, 4), (8, 9))]
    [None, None, 'form', 'form', ('modulus', 1), ('modulus', 0), 'many']
    >>> group_members((2, 3))
    ((0, 0), (0, 1), (0, 2), (1, 0), (1, 1), (1, 2))

    >>> marks = ((1,), (2,), (3,))
    >>> summed((4,), marks, (1, 0, 1)), summed((4,), marks, (0, 1, 1)), summed((2, 4), ((1, 1),), (7,))
    ((0,), (1,), (1, 3))
    >>> span((4,), ((2,),)), span((2, 2), ()), span((2, 4), ((1, 1),))
    (((0,), (2,)), ((0, 0),), ((0, 0), (0, 2), (1, 1), (1, 3)))

    >>> kills((4,), (2,), (2,)), kills((4,), (1,), (2,)), kills((2, 4), (1, 2), (1, 1)), kills((2, 4), (1, 1), (1, 1))
    (True, False, True, False)
    >>> characters((4,), ((2,),)), characters((2, 4), ((1, 1),)), len(characters((2, 4), ()))
    (((0,), (2,)), ((0, 0), (1, 2)), 8)
"""


README = os.path.join(os.path.dirname(os.path.dirname(os.path.abspath(__file__))), "README.md")


class Examples(unittest.TestCase):
    def test_readme(self):
        with open(README, encoding="utf-8") as file:
            run_examples(self, file.read(), {})

    def test_part_a(self):
        run_examples(self, PART_A, {})

    def test_part_b(self):
        run_examples(self, PART_B, {})

    def test_part_c(self):
        run_examples(self, PART_C, {})


if __name__ == "__main__":
    unittest.main()
