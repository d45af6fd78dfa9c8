"""The examples of the document, row by row."""

import os
import unittest

from samples import run_examples

PART_A = r"""
    >>> from onlyhigher.values import is_value, value_rank
    >>> is_value(0), is_value("up"), is_value((3, "ab")), is_value((3,)), is_value(True), is_value(1000), is_value("Up"), is_value(()), is_value(((3,),))
    (True, True, True, True, False, False, False, False, False)
    >>> value_rank(7), value_rank("up"), value_rank((3, "ab"))
    ((0, 7), (1, 'up'), (2, ((0, 3), (1, 'ab'))))
    >>> sorted([(3, "ab"), "up", (3,), 7, "at", 12, ("a", 0)], key=value_rank)
    [7, 12, 'at', 'up', (3,), (3, 'ab'), ('a', 0)]

    >>> from onlyhigher.cards import card_error, is_above, place_of, rises, room, states
    >>> card_error((1, 2)), card_error([1, 2]), card_error(()), card_error((1, 8, True)), card_error((7, 7, 7)), card_error((7, 7, 7, 1)), card_error((1,) * 7)
    (None, 'form', 'form', ('top', 1), None, 'many', 'form')
    >>> states((1, 2)), place_of((1, 2), (1, 0)), place_of((7, 7, 7), (7, 7, 6))
    (((0, 0), (0, 1), (0, 2), (1, 0), (1, 1), (1, 2)), 3, 510)
    >>> place_of((1, 2), (2, 0))
    raises NoState((2, 0))
    >>> place_of((1, 2), (True, 0))
    raises NoState((True, 0))

    >>> is_above((0, 1), (1, 1)), is_above((0, 1), (0, 1)), is_above((0, 1), (1, 0)), is_above((1, 1), (0, 1))
    (True, False, False, False)
    >>> rises((0, 1), (1, 2)), rises((0, 1), (0, 1)), room((1, 2), (0, 1)), room((3, 7, 1), (0, 0, 0))
    (2, 0, (1, 1), (3, 7, 1))

    >>> from onlyhigher.codes import code_error, label, states_with, values_of
    >>> twice = ((1, 1, 1), (0, 1, 2, 3, 3, 2, 1, 0))
    >>> mixed = ((1, 2), ("up", None, (3, "ab"), "up", 7, (3,)))
    >>> code_error(twice), code_error(mixed), code_error(twice + ((),)), code_error(((1, 9), ())), code_error(((1,), [0, 1])), code_error(((1,), (0, 1, 0)))
    (None, None, 'form', ('card', ('top', 1)), 'labels', 'labels')
    >>> code_error(((1,), (None, ()))), code_error(((1,), (None, 1))), code_error(((1,), (0, None))), code_error(((1,), (True, 1)))
    (('label', 1), 'empty', 'few', ('label', 0))
    >>> label(twice, (0, 1, 1)), label(mixed, (0, 1)), values_of(twice), values_of(mixed)
    (3, None, (0, 1, 2, 3), (7, 'up', (3,), (3, 'ab')))
    >>> states_with(twice, 3), states_with(mixed, "up"), states_with(twice, 9), states_with(mixed, None), states_with(twice, True)
    (((0, 1, 1), (1, 0, 0)), ((0, 0), (1, 0)), (), (), ())
    >>> label(twice, (0, 1))
    raises NoState((0, 1))

    >>> from onlyhigher.codetexts import code_text, read_code
    >>> code_text(twice), code_text(mixed)
    ('card 1 1 1\n0 1 2 3 3 2 1 0', 'card 1 2\nup - (3,ab) up 7 (3)')
    >>> read_code("card 1\n0 -")
    raises BadText()
    >>> read_code(code_text(mixed)) == mixed, read_code("card 2\nno yes no")
    (True, ((2,), ('no', 'yes', 'no')))
    >>> read_code("card 1\n00 1")
    raises BadText()
"""

PART_B = """
    >>> from onlyhigher.strengths import lot_strengths, ranks_hold, strength, strengths
    >>> twice = ((1, 1, 1), (0, 3, 2, 1, 1, 2, 3, 0))
    >>> turns = ((3,), ("a", "b", "a", "b"))
    >>> gap = ((1, 1), (0, 1, 1, None))
    >>> strengths(twice), strengths(turns), strengths(gap)
    ((2, 1, 1, 0, 1, 0, 0, 0), (3, 2, 1, 0), (1, 0, 0, None))
    >>> strength(twice, (0, 0, 0)), strength(gap, (1, 0))
    (2, 0)
    >>> strength(gap, (0, 2))
    raises NoState((0, 2))
    >>> strength(gap, (1, 1))
    raises Unfit()
    >>> ranks_hold(turns, (3, 2, 1, 0)), ranks_hold(turns, (2, 2, 1, 0)), ranks_hold(turns, [3, 2, 1, 0]), ranks_hold(gap, (True, 0, 0, None)), ranks_hold(gap, (1, 0, 0, 0))
    (True, False, False, False, False)

    >>> lot_strengths(twice, (0, 1)), lot_strengths(twice, (1, 2, 3)), lot_strengths(turns, ("a", "b"))
    ((2, 1, 1, 1, 1, 0, 0, 0), (2, 1, 1, 0, 1, 0, 0, 0), (3, 2, 1, 0))
    >>> lot_strengths(twice, (1, 7))
    raises NoValue(7)
    >>> lot_strengths(twice, (1, 0))
    raises Unfit()

    >>> from onlyhigher.plays import play, rises_needed, told_foe, told_state
    >>> told_state(twice, (0, 0, 0), 1), told_state(twice, (0, 0, 1), 0), told_state(twice, (0, 1, 1), 2)
    ((1, 0, 0), (1, 1, 1), None)
    >>> told_foe(twice, (0, 0, 0)), told_foe(twice, (0, 1, 1)), told_foe(turns, (3,)), told_state(gap, (0, 0), 1)
    (1, 2, 'a', (0, 1))
    >>> told_state(twice, (0, 1, 1), 1)
    raises Unfit()
    >>> told_state(gap, (1, 1), "b")
    raises NoValue('b')

    >>> play(twice, (1, 1, 0, 2)), play(turns, ("a", "b", "a")), play(gap, ())
    (((1, 0, 0), (1, 0, 0), (1, 1, 1)), ((0,), (1,), (2,)), ())
    >>> play(gap, (1, 0, 5))
    raises NoValue(5)

    >>> rises_needed(twice, (0, 0, 0), 1), rises_needed(twice, (0, 0, 0), 2), rises_needed(twice, (0, 0, 0), 3), rises_needed(gap, (1, 0), 0)
    (1, 3, None, 0)
    >>> near = ((2, 1), ("a", "b", "b", "c", "a", "c"))
    >>> strengths(near), rises_needed(near, (0, 0), 1)
    ((1, 0, 1, 0, 0, 0), 2)
"""

PART_C = """
    >>> from onlyhigher.groups import characters, group_error, group_members, kills, span, summed
    >>> [group_error(value) for value in ((4,), (2, 2), [4], (), (4, 1), (True, 4), (8, 9))]
    [None, None, 'form', 'form', ('modulus', 1), ('modulus', 0), 'many']
    >>> group_members((2, 3))
    ((0, 0), (0, 1), (0, 2), (1, 0), (1, 1), (1, 2))

    >>> marks = ((1,), (2,), (3,))
    >>> summed((4,), marks, (1, 0, 1)), summed((4,), marks, (0, 1, 1)), summed((2, 4), ((1, 1),), (7,))
    ((0,), (1,), (1, 3))
    >>> span((4,), ((2,),)), span((2, 2), ()), span((2, 4), ((1, 1),))
    (((0,), (2,)), ((0, 0),), ((0, 0), (0, 2), (1, 1), (1, 3)))

    >>> kills((4,), (2,), (2,)), kills((4,), (1,), (2,)), kills((2, 4), (1, 2), (1, 1)), kills((2, 4), (1, 1), (1, 1))
    (True, False, True, False)
    >>> characters((4,), ((2,),)), characters((2, 4), ((1, 1),)), len(characters((2, 4), ()))
    (((0,), (2,)), ((0, 0), (1, 2)), 8)

    >>> from onlyhigher.sums import makes, room_strengths, sums_code, ways_to
    >>> sums_code((1, 1, 1), (4,), marks)[1]
    ((0,), (3,), (2,), (1,), (1,), (0,), (3,), (2,))
    >>> sums_code((1,), (2,), ((1,),))
    ((1,), ((0,), (1,)))
    >>> sums_code((1, 1), (4,), ((1,), (1,)))
    raises Unfit()
    >>> sums_code((1, 1, 1), (4,), ((1,), (2,), (True,)))
    raises Unfit()
    >>> sums_code((0, 1), (4,), None)
    raises BadCard(('top', 0))

    >>> makes((4,), marks, (1, 0, 1)), makes((4,), marks, (1, 1, 0)), makes((4,), marks, (0, 0, 0))
    (((0,), (1,), (3,)), ((1,), (2,), (3,)), ())
    >>> ways_to((4,), marks, (1, 1, 1), (1,)), ways_to((4,), marks, (1, 1, 1), (0,)), ways_to((4,), marks, (1, 0, 1), (2,))
    (((0, 1, 1), (1, 0, 0)), ((1, 0, 1),), ())

    >>> room_strengths((1, 1, 1), (4,), marks)
    (0, 0, 0, 1, 0, 0, 1, 1)
    >>> room_strengths((1, 1, 1), (2, 2), ((1, 0), (0, 1), (1, 1)))
    (0, 0, 0, 1, 0, 1, 1, 2)
    >>> room_strengths((3,), (2,), ((1,),)), room_strengths((1, 1), (4,), ((1,), (1,)))
    ((0, 1, 2, 3), (0, 0, 0, 0))

    >>> from onlyhigher.barring import bar, bar_holds
    >>> bar((4,), marks, (0, 1, 0), (1,)), bar((4,), marks, (1, 0, 1), (3,))
    (('character', (2,)), None)
    >>> bar((4,), marks, (1, 0, 1), (2,))
    ('sums', (((0,), (1,)), ((0,), (1,)), ((0,), (1,), (3,))))
    >>> rows = bar((4,), marks, (1, 0, 1), (2,))[1]
    >>> [bar_holds((4,), marks, (1, 0, 1), (2,), value) for value in (("sums", rows), ("sums", rows[:2]), ("sums", rows[:2] + (((0,), (1,)),)), ("character", (2,)), None)]
    [True, False, False, False, False]
    >>> [bar_holds((4,), marks, (0, 1, 0), (1,), value) for value in (("character", (2,)), ("character", (0,)), ("sums", (((0,),), ((0,), (2,)), ((0,), (2,)))))]
    [True, False, True]
"""

PART_D = """
    >>> from onlyhigher.compared import follows, never_weaker, pairs_hold, strikes, strikes_hold
    >>> flat, tall, short = ((1, 1), (0, 1, 1, 0)), ((2,), (0, 1, 0)), ((1, 1), (0, 1, 1, None))
    >>> follows(flat, tall)
    (((0, 0), (0,)), ((0, 0), (2,)), ((0, 1), (1,)), ((1, 0), (1,)), ((1, 1), (2,)))
    >>> follows(short, flat), follows(flat, short)
    ((((0, 0), (1, 1)),), (((0, 0), (0, 0)), ((0, 1), (0, 1)), ((0, 1), (1, 0)), ((1, 0), (0, 1)), ((1, 0), (1, 0))))
    >>> never_weaker(flat, tall), never_weaker(tall, flat), never_weaker(flat, short), never_weaker(short, flat)
    (True, True, True, False)
    >>> few = (((0, 0), (0,)), ((0, 1), (1,)), ((1, 1), (2,)))
    >>> pairs_hold(flat, tall, few), pairs_hold(flat, tall, few[:2]), pairs_hold(flat, tall, few[1:]), pairs_hold(flat, tall, few[::-1]), pairs_hold(flat, tall, [])
    (True, False, False, False, False)
    >>> pairs_hold(flat, tall, few[:1] + (((0, 1), (2,)),)), pairs_hold(short, flat, follows(short, flat)), pairs_hold(flat, flat, (((0, 0), (0, 0)),))
    (False, False, False)
    >>> follows(flat, ((2,), (1, 0, 1)))
    raises Unfit()

    >>> strikes(flat, tall), strikes(short, flat)
    ((((1, 1), (0,), 1),), (((0, 0), (0, 0), 2), ((0, 1), (0, 1), 1), ((0, 1), (1, 0), 1), ((1, 0), (0, 1), 1), ((1, 0), (1, 0), 1)))
    >>> table = (((0, 0), (0, 0), 7), ((0, 1), (0, 1), 1), ((1, 0), (0, 1), 4))
    >>> strikes_hold(short, flat, strikes(short, flat)), strikes_hold(short, flat, table), strikes_hold(short, flat, table[:2])
    (True, True, False)
    >>> strikes_hold(short, flat, (((0, 0), (0, 0), 4),) + table[1:]), strikes_hold(short, flat, table[1:]), strikes_hold(flat, tall, strikes(flat, tall))
    (False, False, False)

    >>> from onlyhigher.alike import alike, led
    >>> led(flat, (1, 0), ((0, "a"), (1, "b")))
    ((1, 1), ('a', 'b', 'b', 'a'))
    >>> uneven = ((1, 2), (0, 1, None, 1, None, 0))
    >>> led(uneven, (1, 0), ((0, 0), (1, 1)))
    ((2, 1), (0, 1, 1, None, None, 0))
    >>> alike(uneven, ((2, 1), (7, 3, 3, None, None, 7))), alike(uneven, uneven), alike(flat, tall), alike(flat, short)
    (((1, 0), ((0, 7), (1, 3))), ((0, 1), ((0, 0), (1, 1))), None, None)
    >>> led(flat, (1, 0), ((0, 1), (1, 0))) == ((1, 1), (1, 0, 0, 1)), led(led(uneven, (1, 0), ((0, 5), (1, 6))), (1, 0), ((5, 0), (6, 1))) == uneven
    (True, True)
    >>> led(flat, (0, 0), ((0, 0), (1, 1)))
    raises Unfit()
    >>> led(flat, (0, 1), ((0, "a"), (1, "a")))
    raises Unfit()
"""

PART_E = """
    >>> from onlyhigher.best import best_code
    >>> from onlyhigher.strengths import strength
    >>> best_code((1,), 2, 1), best_code((1,), 3, 1), best_code((1, 1), 2, 3), best_code((1, 1), 3, 2)
    (((1,), (0, 1)), None, None, None)
    >>> strength(best_code((1, 1), 2, 2), (0, 0)), strength(best_code((1, 1), 3, 1), (0, 0)), strength(best_code((2, 1), 2, 3), (0, 0))
    (2, 1, 3)
    >>> best_code((4, 1), 2, 1)
    raises TooMany(9)

    >>> from onlyhigher.trees import hopeful, no_tree, tree_holds
    >>> hopeful((1, 1), 2, (0, "open", "open", "open")), hopeful((1, 1), 3, (0, "open", "open", "open"))
    (2, 2)
    >>> hopeful((1, 1), 3, (0, "open", "open", 2)), hopeful((1, 1), 3, (0, 1, 2, None)), hopeful((1, 1), 3, (0, 1, 1, "open")), hopeful((1, 1), 3, (0, 1, 1, None))
    (1, 1, 1, 0)

    >>> no_tree((1,), 3, 1), tree_holds((1, 1), 2, 3, None)
    (((1,), (None, None, None, None)), True)
    >>> tree = ((1, 1), (None, None, None, None))
    >>> tree_holds((1, 1), 3, 2, tree), tree_holds((1, 1), 3, 2, None), tree_holds((1, 1), 3, 1, tree), tree_holds((1, 1), 3, 2, ((0, 1), (None,) * 4))
    (True, False, False, False)
    >>> tree_holds((1, 1), 3, 2, ((0, 1), (tree,) * 4)), tree_holds((1, 1), 3, 2, ((1, 1), (tree,) * 4)), tree_holds((1, 1), 3, 2, ((1, 1), (None,) * 3))
    (True, False, False)
    >>> tree_holds((1, 1), 3, 2, no_tree((1, 1), 3, 2)), tree_holds((2,), 2, 2, no_tree((1, 1), 3, 2))
    (True, False)
    >>> no_tree((1,), 2, 1)
    raises HasCode(((1,), (0, 1)))
    >>> no_tree((4, 1), 2, 9)
    raises TooMany(9)
"""

PART_F = """
    >>> from onlyhigher.kinds import asked, kind_error, kind_ranks_hold, kind_state, kind_strengths
    >>> clock = ((3,), (0, 1, 2, 0))
    >>> row = ((5,), ((0, 0), (0, 1), (1, 1), (1, 0), (0, 0), (0, 1)))
    >>> short = ((3,), ((0, 0), (0, 1), (1, 0), (0, 0)))
    >>> kind_error(clock, "up"), kind_error(clock, "name"), kind_error(row, "buffer"), kind_error(row, "both"), kind_error(row, "down")
    (None, 'form', None, 'form', 'kind')
    >>> asked(clock, "up", 2), asked(clock, "both", 0), asked(clock, "any", 1)
    ((0,), (1, 2), (0, 2))
    >>> asked(row, "buffer", (0, 1)), asked(row, "buffer", (1, 1)), asked(row, "name", (0, 1)), asked(short, "name", (0, 1))
    (((1, 0), (1, 1)), ((1, 0),), ((0, 0), (1, 1)), ((0, 0), (1, 1)))
    >>> asked(short, "name", (1, 1))
    raises NoValue((1, 1))
    >>> asked(row, "up", (0, 1))
    raises NoKind('form')

    >>> kind_strengths(clock, "any"), kind_strengths(clock, "both"), kind_strengths(clock, "up")
    ((1, 1, 0, 0), (1, 1, 0, 0), (3, 2, 1, 0))
    >>> kind_strengths(row, "any"), kind_strengths(row, "name"), kind_strengths(row, "buffer")
    ((1, 1, 1, 0, 0, 0), (1, 1, 1, 0, 0, 0), (3, 2, 2, 1, 1, 0))
    >>> kind_strengths(short, "any"), kind_strengths(short, "name")
    ((1, 1, 0, 0), (1, 0, 0, 0))
    >>> [kind_ranks_hold(clock, "up", value) for value in ((3, 2, 1, 0), [3, 2, 1, 0], (3, 2, 1, 1), (2, 2, 1, 0), (3, 2, True, 0), None)]
    [True, False, False, False, False, False]
    >>> kind_strengths(clock, "name")
    raises NoKind('form')

    >>> kind_state(row, "buffer", (0,), (0, 1)), kind_state(row, "buffer", (1,), (1, 0)), kind_state(clock, "up", (3,), 1), kind_state(short, "name", (1,), (1, 1))
    ((1,), (3,), None, None)
    >>> kind_state(row, "buffer", (3,), (1, 1))
    raises Unfit()
    >>> kind_state(clock, "up", (4,), 1)
    raises NoState((4,))
"""

PART_G = """
    >>> from onlyhigher.cuts import safe_orders, safe_ranks_hold, safe_strengths, safe_way, way_error
    >>> from onlyhigher.strengths import strengths
    >>> small = ((1, 1), (0, 0, None, 1))
    >>> twice = ((1, 1, 1), (0, 3, 2, 1, 1, 2, 3, 0))
    >>> way_error(small, ((0, 0), (0, 1), (1, 1))), way_error(small, ((0, 0), (1, 0), (1, 1))), way_error(small, ((0, 0), (0, 1)))
    (None, ('label', 1), 'end')
    >>> way_error(twice, ((0, 0, 0), (1, 0, 0))), way_error(twice, ((1, 0, 0), (1, 1, 0), (1, 1, 1)))
    (None, ('label', 1))
    >>> way_error(twice, ((1, 0, 0), (1, 1, 1))), way_error(twice, ((0, 0, 0), (0, 0, 2))), way_error(twice, ((0, 0, 0),)), way_error(twice, [])
    (('rise', 1), ('state', 1), 'form', 'form')

    >>> strengths(twice), safe_strengths(twice)
    ((2, 1, 1, 0, 1, 0, 0, 0), (1, 0, 0, 0, 0, 0, 0, 0))
    >>> safe_strengths(small), safe_strengths(((3,), (0, 1, 0, 1))), strengths(((3,), (0, 1, 0, 1)))
    ((1, 1, None, 0), (3, 2, 1, 0), (3, 2, 1, 0))
    >>> safe_ranks_hold(small, (1, 1, None, 0)), safe_ranks_hold(small, (1, 0, None, 0)), safe_ranks_hold(small, [1, 1, None, 0])
    (True, False, False)

    >>> safe_way(small, (0, 0), 1), safe_way(twice, (0, 0, 0), 1), safe_way(twice, (1, 0, 0), 0), safe_way(twice, (1, 0, 0), 2)
    (((0, 0), (0, 1), (1, 1)), ((0, 0, 0), (1, 0, 0)), None, ((1, 0, 0), (1, 0, 1)))
    >>> safe_way(small, (0, 2), 1)
    raises NoState((0, 2))
    >>> safe_way(small, (0, 0), 7)
    raises NoValue(7)
    >>> safe_way(small, (1, 0), 1)
    raises Unfit()

    >>> safe_orders(small), safe_orders(twice), safe_orders(((3,), (0, 1, 0, 1)))
    (((1, 0),), (), ((0,),))
    >>> safe_orders(((1, 1), (0, 1, 1, 0)))
    ((0, 1), (1, 0))
"""

PART_H = """
    >>> from onlyhigher.slips import all_strengths, crowded, read_as, slip_ranks_hold, stuck_strengths, turn_strengths
    >>> from onlyhigher.strengths import strengths
    >>> line = ((5,), (0, None, 1, None, 0, None))
    >>> crowded(line, 0), crowded(line, 1), crowded(line, 2)
    (None, None, ((0,), (2,)))
    >>> read_as(line, 1, (3,)), read_as(line, 0, (3,)), read_as(line, 0, (4,))
    (1, None, 0)
    >>> read_as(line, 2, (3,))
    raises Crowded(((0,), (2,)))
    >>> read_as(line, 2, (6,))
    raises NoState((6,))

    >>> row, none = (0, None, 1, None, 0), (None,) * 5
    >>> wide = ((2, 4), row + (None, None, 1, None, 0) + none)
    >>> crowded(wide, 1), strengths(wide)[:5], strengths(wide)[5:10]
    (None, (2, None, 1, None, 0), (None, None, 1, None, 0))
    >>> turn_strengths(wide, 1)[:5], turn_strengths(wide, 1)[5:10], turn_strengths(wide, 0) == strengths(wide)
    ((1, None, 1, None, 0), (None, None, 0, None, 0), True)
    >>> slip_ranks_hold(wide, 1, turn_strengths(wide, 1)), slip_ranks_hold(wide, 1, strengths(wide)), slip_ranks_hold(wide, 0, strengths(wide))
    (True, False, True)
    >>> turn_strengths(line, 1)
    (2, None, 1, None, 0, None)
    >>> turn_strengths(line, 2)
    raises Crowded(((0,), (2,)))

    >>> found = all_strengths(wide, 1)
    >>> len(found), found[0] == strengths(wide), found[1][:5], found[1][5:10]
    (2, True, (2, None, 1, None, 0), (None, None, 0, None, 0))
    >>> all_strengths(line, 1) == (strengths(line), strengths(line)), all_strengths(wide, 0) == (strengths(wide),)
    (True, True)

    >>> twice = ((1, 1, 1), (0, 3, 2, 1, 1, 2, 3, 0))
    >>> strengths(twice), stuck_strengths(twice, (0,)), stuck_strengths(twice, ())
    ((2, 1, 1, 0, 1, 0, 0, 0), (1, 0, 0, 0, 1, 0, 0, 0), (2, 1, 1, 0, 1, 0, 0, 0))
    >>> stuck_strengths(wide, (1,))[:5], stuck_strengths(line, (0,))
    ((0, None, 0, None, 0), (0, None, 0, None, 0, None))
"""

PART_I = """
    >>> from onlyhigher.shares import mean_state, means, means_hold, plan_means, shares_error, spread
    >>> twice = ((1, 1, 1), (0, 1, 2, 3, 3, 2, 1, 0))
    >>> three = ((1, 1), ("a", "b", "c", "a"))
    >>> even, uneven = ((0, 1), (1, 1), (2, 1), (3, 1)), (("a", 1), ("b", 2), ("c", 3))
    >>> shares_error(twice, even), shares_error(three, uneven), shares_error(three, even), shares_error(three, list(uneven))
    (None, None, 'values', 'form')
    >>> shares_error(three, uneven[:2] + (("c", 0),)), shares_error(three, (("b", 2), ("a", 1, 1))), shares_error(three, uneven[::-1]), shares_error(three, ())
    (('share', 2), ('share', 1), 'values', 'values')

    >>> means(three, uneven)
    ((13, 10), (1, 4), (1, 3), (0, 1))
    >>> means(twice, even)
    ((20, 9), (11, 9), (11, 9), (1, 3), (11, 9), (1, 3), (1, 3), (0, 1))
    >>> means(((2,), (0, None, 1)), ((0, 5), (1, 7)))
    ((1, 1), None, (0, 1))
    >>> told = means(three, uneven)
    >>> means_hold(three, uneven, told), means_hold(three, uneven, told[:1] + ((2, 8),) + told[2:]), means_hold(three, uneven, ((6, 5),) + told[1:]), means_hold(three, uneven, list(told))
    (True, False, False, False)

    >>> mean_state(twice, even, (0, 0, 0), 3), mean_state(twice, even, (0, 0, 1), 3), mean_state(twice, even, (0, 1, 1), 2)
    ((1, 0, 0), (0, 1, 1), None)
    >>> mean_state(three, uneven, (0, 1), "b")
    raises Unfit()
    >>> mean_state(three, uneven, (0, 1), "d")
    raises NoValue('d')
    >>> mean_state(three, uneven, (0, 2), "d")
    raises NoState((0, 2))

    >>> plan_means(three, uneven) == means(three, uneven), plan_means(twice, even)[0]
    (True, (20, 9))
    >>> spread(three, uneven), spread(twice, even)
    (((1, (7, 10)), (2, (3, 10))), ((2, (7, 9)), (3, (2, 9))))
"""

PART_J = """
    >>> from onlyhigher.looks import depth, least_looks, look_error, look_foe, look_foe_holds, look_tree
    >>> first = ((1, 1), (0, 0, 1, None))
    >>> chosen = ((1, 1, 1), (0, 0, 1, 1, 0, 1, 0, 1))
    >>> bit = (("read", 0), ("read", 1))
    >>> good = ("look", 0, (("look", 1, bit), ("look", 2, bit)))
    >>> look_error(chosen, good), depth(good), depth(("read", None))
    (None, 2, 0)
    >>> look_error(chosen, ("look", 0, bit)), look_error(chosen, ("look", 3, bit)), look_error(chosen, ("look", 0, (("look", 1, bit), ("look", 0, bit))))
    (('label', (0, 1, 0)), ('cell', ()), ('cell', (1,)))
    >>> look_error(chosen, ["look", 0, bit]), look_error(chosen, ("look", True, bit)), look_error(chosen, ("look", 0, bit + bit)), look_error(chosen, ("read", "A"))
    ('form', 'form', ('cell', ()), 'form')
    >>> look_error(first, ("look", 0, (("read", 0), ("look", 1, (("read", 1), ("read", None))))))
    None

    >>> least_looks(chosen), depth(look_tree(chosen)), look_error(chosen, look_tree(chosen)), least_looks(first)
    (2, 2, None, 2)
    >>> least_looks(((1, 1), (4, 4, 7, 7))), look_tree(((1, 1), (4, 4, 7, 7)))
    (1, ('look', 0, (('read', 4), ('read', 7))))

    >>> look_foe(chosen, 2), look_foe(chosen, 5), look_foe_holds(chosen, 1, look_foe(chosen, 1)), look_foe_holds(chosen, 0, look_foe(chosen, 0))
    (None, None, True, True)
    >>> two = ("open", (0, 0, 0), (0, 1, 0))
    >>> open_still = ("answers", ((0, two), (0, ("open", (0, 0, 0), (1, 0, 1))), (0, two)))
    >>> look_foe_holds(chosen, 1, open_still), look_foe_holds(chosen, 0, open_still), look_foe_holds(chosen, 1, two), look_foe_holds(chosen, 0, two)
    (True, False, False, True)
    >>> look_foe_holds(chosen, 1, ("answers", open_still[1][:2])), look_foe_holds(chosen, 1, ("answers", ((1, two),) + open_still[1][1:])), look_foe_holds(chosen, 0, ("open", (0, 0, 0), (0, 0, 1)))
    (False, False, False)
"""

PART_K = """
    >>> from onlyhigher.together import behind, beside, first_strength, inside, lifted
    >>> from onlyhigher.strengths import strengths
    >>> once, parity = ((1,), (0, 1)), ((1, 1), (0, 1, 1, 0))
    >>> strengths(once), strengths(parity)
    ((1, 0), (2, 1, 1, 0))
    >>> pair = beside(once, once)
    >>> pair, strengths(pair)
    (((1, 1), ((0, 0), (0, 1), (1, 0), (1, 1))), (1, 0, 0, 0))
    >>> beside(pair, once)[1][:3], strengths(beside(parity, once))
    (((0, 0, 0), (0, 0, 1), (0, 1, 0)), (1, 0, 1, 0, 1, 0, 0, 0))
    >>> beside(beside(pair, pair), once)
    raises Unfit()
    >>> beside(((1,), (0, (0, 1))), once)
    raises Unfit()

    >>> behind(once, once), strengths(behind(once, once))
    (((1, 1), (0, 1, 1, 1)), (1, 0, 0, 0))
    >>> both = behind(once, parity)
    >>> both, strengths(both)
    (((1, 1, 1), (0, 1, 1, 0, 1, 1, 1, 0)), (2, 1, 1, 0, 1, 1, 1, 0))
    >>> behind(once, ((1,), (0, 2)))
    raises Unfit()

    >>> inside(parity, once) == parity, inside(once, parity) == parity, inside(once, pair) == pair
    (True, True, True)
    >>> twice = inside(parity, pair)
    >>> twice[0], twice[1][:4], strengths(twice)[0]
    ((1, 1, 1, 1), ((0, 0), (0, 1), (0, 1), (0, 0)), 2)
    >>> inside(parity, ((2,), (0, 1, 0)))
    raises Unfit()

    >>> lifted(once, (2, 1)), strengths(lifted(once, (2, 1)))
    (((2, 1), (0, None, 1, None, None, None)), (1, None, 0, None, None, None))
    >>> lifted(parity, parity[0]) == parity
    True
    >>> lifted(parity, (3,))
    raises Unfit()

    >>> first_strength(once), first_strength(parity), first_strength(twice), first_strength(((2,), (0, 0, 1)))
    (0, 1, 1, 1)
"""

PART_L = """
    >>> from onlyhigher.shelves import Shelf, edits_left
    >>> from onlyhigher.strengths import strengths
    >>> parity, line = ((1, 1), (0, 1, 1, 0)), ((3,), ("a", "b", "c", "a"))
    >>> strengths(parity), strengths(line)
    ((2, 1, 1, 0), (1, 1, 0, 0))
    >>> edits_left(parity, ((0, 0),), 0), edits_left(parity, ((0, 1), (0, 0)), 0), edits_left(parity, ((1, 1),), 1), edits_left(parity, ((1, 1),), 2)
    (2, 1, 2, 4)
    >>> edits_left(parity, ((1, 1), (1, 1)), 1), edits_left(parity, ((1, 1), (0, 0)), 1)
    (1, 2)
    >>> edits_left(line, ((0,),), 0), edits_left(line, ((0,),), 1)
    (1, 3)
    >>> edits_left(parity, ((0, 2),), 0)
    raises NoState((0, 2))
    >>> edits_left(parity, ((0, 0),) * 6, 1)
    raises TooMany(4096)

    >>> s = Shelf(parity, ("ann", "bo"), 1)
    >>> [s.edit("ann", 1), s.edit("ann", 0), s.edit("bo", 0), s.states(), s.find(0)]
    ['written', 'written', 'same', ((1, 1), (0, 0)), ('ann', 'bo')]
    >>> [s.edit("ann", 1), s.states(), s.left(), s.spare(), s.read("ann"), s.find(1)]
    ['fresh', ((0, 1), (0, 0)), ((1, 1),), 0, 1, ('ann',)]
    >>> [s.edit("ann", 0), s.wipe(), s.states(), s.left(), s.spare()]
    ['written', 1, ((0, 0), (0, 0)), (), 1]
    >>> s.edit("cy", 1)
    raises NoName('cy')
    >>> s.edit("ann", 2)
    raises NoValue(2)
    >>> t = Shelf(((1,), (0, 1)), ("ann",), 0)
    >>> t.edit("ann", 1)
    'written'
    >>> t.edit("ann", 0)
    raises Spent()

    >>> from onlyhigher.tapes import blank_tape, raised, striking, tape_error, whole_records, writing
    >>> tape = blank_tape(2, 3)
    >>> writing(tape, 2), striking(tape), whole_records(tape)
    ((1, 2, 4), (), ())
    >>> first = raised(tape, writing(tape, 2))
    >>> first, whole_records(first), writing(first, 3)
    ((2, (0, 1, 1, 0, 1, 0, 0, 0, 0, 0, 0, 0, 0, 0, 0)), (2,), (6, 8, 9))
    >>> torn = raised(first, writing(first, 3)[:2])
    >>> tape_error(torn), whole_records(torn), striking(torn)
    (None, (2,), (5, 7, 9))
    >>> mended = raised(torn, striking(torn))
    >>> mended[1][5:10], whole_records(mended), writing(mended, 3), striking(raised(torn, striking(torn)[:1]))
    ((1, 1, 1, 1, 1), (2,), (11, 13, 14), (7, 9))
    >>> writing(torn, 3)
    raises BadTape(1)
    >>> tape_error((2, (0, 0, 0, 0, 1))), tape_error((2, (0,) * 6)), tape_error((2, (0,) * 5 + (1,) + (0,) * 4)), tape_error([2, ()])
    (('frame', 0), 'cells', ('frame', 1), 'form')

    >>> from onlyhigher.shelves import record_of, shelf_behind
    >>> record_of(parity, ("ann", "bo"), "bo", 1), record_of(line, ("ann", "bo"), "bo", "a")
    (3, 3)
    >>> shelf_behind(parity, ("ann", "bo"), 1, (1, 0, 3)).states(), shelf_behind(parity, ("ann", "bo"), 1, whole_records(mended)).read("bo")
    (((1, 1), (0, 1)), 0)
    >>> shelf_behind(parity, ("ann", "bo"), 1, (1, 4))
    raises BadTape(1)
"""

PART_M = """
    >>> from onlyhigher.benches import Bench
    >>> b = Bench(((1, 1), (0, 1, 1, None)))
    >>> [b.strength(), len(b), b[(1, 1)], list(b), b.relabel((1, 1), 0), b.strength(), b.version]
    [1, 4, None, [(0, 0), (0, 1), (1, 0)], 1, 2, 1]
    >>> [b.batch((("rename", ((0, "off"), (1, "on"))), ("lift", (2, 1)))), b.code]
    [2, ((2, 1), ('off', 'on', 'on', 'off', None, None))]
    >>> [b.relabel((2, 0), "off"), b.reorder((1, 0)), b.code, b.strength()]
    [3, 4, ((1, 2), ('off', 'on', 'off', 'on', 'off', None)), 2]
    >>> [b.undo(), b.undo(), b.redo(), b.version, b.at(0), b == Bench(b.code), b == b.code]
    [3, 2, 3, 3, ((1, 1), (0, 1, 1, None)), True, False]
    >>> b.relabel((0, 0), None)
    raises BadCode('empty')
    >>> b.batch((("relabel", (0, 0), "on"), ("rename", ())))
    raises Rejected(1)
    >>> b.batch((("relabel", (0, 0)),))
    raises BadBatch()
    >>> b.at(4)
    raises NoVersion(4)

    >>> from onlyhigher.shells import Shell
    >>> s = Shell()
    >>> [s.say("show"), s.say("code card 1 1 / 0 1 1 0"), s.say("strength 0,0"), s.say("told 0,0 1"), s.say("safe"), s.say("looks"), s.say("mean")]
    ['no bench', 'ok', '2', '0,1', '2', '2', '2/1']
    >>> [s.say("label 1,1 -"), s.say("strength 1,1"), s.say("show"), s.say("told 0,1 0"), s.say("undo"), s.say("undo")]
    ['version 1', 'error Unfit', 'card 1 1 / 0 1 1 -', 'none', 'version 0', 'error NothingToUndo']
    >>> [s.say("slips 1"), s.say("strength 0,2"), s.say("told 0,0 b"), s.say("code card 1 / 0"), s.say("lift 2,1"), s.say("lift 9"), s.say("strength"), s.say("go"), s.say(7)]
    ['error Crowded', 'error NoState', 'error NoValue', 'error BadText', 'version 1', 'error BadCard', 'what', 'what', 'what']
"""

PART_N = """
    >>> from onlyhigher.ahead import ahead_strength, failing_row, row_states
    >>> from onlyhigher.strengths import strengths
    >>> turn = ((1, 1), (0, 1, 1, 0))
    >>> fork = ((3,), ("a", "b", "c", "b"))
    >>> row_states(turn, ()), row_states(turn, (1, 0, 1)), row_states(fork, ("c", "b")), row_states(fork, ("b", "c", "b"))
    ((), None, ((2,), (3,)), ((1,), (2,), (3,)))
    >>> failing_row(turn), ahead_strength(turn), failing_row(fork), ahead_strength(fork)
    ((1, 0, 1), 2, ('b', 'a'), 1)
    >>> row_states(turn, (1, 1))
    raises Unfit()
    >>> row_states(turn, (1, 2, 1))
    raises NoValue(2)
    >>> seen = ((1, 1, 1), (0, 1, 1, 1, 2, 0, 2, 1))
    >>> strengths(seen)[0], ahead_strength(seen), failing_row(seen)
    (1, 2, (1, 0, 2))

    >>> from onlyhigher.machines import machine_error, machine_ranks_hold, machine_state, machine_strengths
    >>> swing, once = (((1, 1),), ((0, 0),)), (((1, 1), (0, 0)), ((1, 1),))
    >>> machine_error(turn, swing), machine_error(turn, once), machine_error(turn, ((),)), machine_error(turn, (((1, 0), (2, 0)),)), machine_error(turn, (((1, 1),),)), machine_error(turn, [])
    (None, None, ('room', 0), ('value', 0, 1), ('goal', 0, 0), 'form')

    >>> machine_strengths(turn, swing)
    ((2, 'ever', 'ever', 0), ('ever', 1, 1, 'ever'))
    >>> machine_strengths(turn, once), machine_ranks_hold(turn, swing, machine_strengths(turn, swing)), machine_ranks_hold(turn, swing, ())
    ((('ever', 1, 1, 0), ('ever', 'ever', 'ever', 0)), True, False)

    >>> machine_state(turn, swing, 0, (0, 0), 1), machine_state(turn, swing, 1, (0, 1), 0), machine_state(turn, swing, 0, (1, 1), 1)
    ((0, 1), (1, 1), None)
    >>> machine_state(turn, swing, 0, (0, 1), 0)
    raises Unfit()
"""


README = os.path.join(os.path.dirname(os.path.dirname(os.path.abspath(__file__))), "README.md")


class Examples(unittest.TestCase):
    def test_readme(self):
        with open(README, encoding="utf-8") as file:
            run_examples(self, file.read(), {})

    def test_part_a(self):
        run_examples(self, PART_A, {})

    def test_part_b(self):
        run_examples(self, PART_B, {})

    def test_part_c(self):
        run_examples(self, PART_C, {})

    def test_part_d(self):
        run_examples(self, PART_D, {})

    def test_part_e(self):
        run_examples(self, PART_E, {})

    def test_part_f(self):
        run_examples(self, PART_F, {})

    def test_part_g(self):
        run_examples(self, PART_G, {})

    def test_part_h(self):
        run_examples(self, PART_H, {})

    def test_part_i(self):
        run_examples(self, PART_I, {})

    def test_part_j(self):
        run_examples(self, PART_J, {})

    def test_part_k(self):
        run_examples(self, PART_K, {})

    def test_part_l(self):
        run_examples(self, PART_L, {})

    def test_part_m(self):
        run_examples(self, PART_M, {})

    def test_part_n(self):
        run_examples(self, PART_N, {})


if __name__ == "__main__":
    unittest.main()
