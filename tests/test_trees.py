"""[E3] to [E6]: hopeful strengths, and trees that there is no code."""

import itertools
import random
import unittest

import reference
from onlyhigher.best import best_code
from onlyhigher.errors import HasCode, TooMany
from onlyhigher.strengths import strengths
from onlyhigher.trees import hopeful, no_tree, tree_holds
from samples import ODD_VALUES, check_error, check_kept, same

TREE = ((1, 1), (None,) * 4)
GREAT_CARDS = [(7, 7, 7), (1, 1, 1, 3, 3, 3), (7, 3, 1, 1, 1, 1)]


def some_labels(card, many, seed, times):
    """Labels of which none, some or all are open, picked by the seed."""
    pick = random.Random(seed)
    for _ in range(times):
        names = list(range(many)) + [None]
        part = pick.choice((0, 0.2, 0.5, 0.8, 1))
        yield (0,) + tuple(
            "open" if pick.random() < part else pick.choice(names) for _ in reference.levels(card)[1:])


class Hopeful(unittest.TestCase):
    def test_by_the_definition(self):
        for seed, card in enumerate(reference.SMALL_CARDS + [(2, 1, 1), (3, 2)]):
            for many in (2, 3, 4):
                for labels in some_labels(card, many, seed, 25):
                    expected = reference.hope(card, many, labels, (0,) * len(card), 0)
                    self.assertTrue(same(hopeful(card, many, labels), expected), (card, many, labels))

    def test_all_labels_of_a_small_card(self):
        for many in (2, 3):
            for labels in itertools.product(list(range(many)) + [None, "open"], repeat=3):
                expected = reference.hope((1, 1), many, (0,) + labels, (0, 0), 0)
                self.assertEqual(hopeful((1, 1), many, (0,) + labels), expected)

    def test_all_open(self):
        for card in reference.SMALL_CARDS + GREAT_CARDS:
            for many in (2, 3, 4):
                self.assertEqual(hopeful(card, many, reference.open_labels(card)), sum(card))

    def test_nothing_open(self):
        for card in reference.SMALL_CARDS + [(7, 7, 7)]:
            for many in (2, 3, 4):
                labels = (0,) + tuple(at % many for at in range(1, len(reference.levels(card))))
                if len(set(labels)) == many:
                    self.assertEqual(hopeful(card, many, labels), strengths((card, labels))[0])
                self.assertEqual(hopeful(card, many, (0,) + (None,) * (len(labels) - 1)), 0)

    def test_values_that_label_no_state(self):
        self.assertEqual(hopeful((3,), 3, (0, 1, 0, 1)), 0)
        self.assertEqual(hopeful((3,), 2, (0, 1, 0, 1)), 3)
        self.assertEqual(hopeful((3,), 3, (0, 1, 0, "open")), 1)
        self.assertEqual(hopeful((3,), 4, (0, 1, 0, "open")), 1)
        self.assertEqual(hopeful((3,), 2, (0, 0, 0, 0)), 0)
        self.assertEqual(hopeful((3,), 2, (0, None, None, "open")), 1)

    def test_great_cards(self):
        for card in GREAT_CARDS:
            for many in (2, 4):
                labels = (0,) + tuple(
                    at % many if at % 3 else None for at in range(1, len(reference.levels(card))))
                least = hopeful(card, many, labels)
                self.assertEqual(least, strengths((card, labels))[0])
                opened = tuple("open" if at % 7 == 6 else name for at, name in enumerate(labels))
                self.assertLessEqual(least, hopeful(card, many, opened))

    def test_by_name_and_kept(self):
        self.assertEqual(hopeful(card=(1,), many=2, labels=(0, "open")), 1)
        self.assertEqual(hopeful(labels=(0, 1), many=3, card=(1,)), 0)
        check_kept(self, hopeful, (1, 1), 3, (0, "open", None, 2))


class NoTree(unittest.TestCase):
    def test_all_small_cards(self):
        for card in reference.SMALL_CARDS:
            for many in (2, 3, 4):
                for least in range(1, sum(card) + 3):
                    best = best_code(card, many, least)
                    if best is not None:
                        check_error(self, HasCode(best), no_tree, card, many, least)
                        continue
                    tree = no_tree(card, many, least)
                    self.assertIs(tree_holds(card, many, least, tree), True)
                    self.assertIs(tree_holds(card, many, least + 1, tree), True)
                    self.assertIs(tree_holds(card, many, 10 ** 399, tree), True)
                    if len(reference.levels(card)) < 7:
                        self.assertTrue(reference.is_tree(card, many, least, reference.open_labels(card), tree))
                    break
                self.assertIsNone(best_code(card, many, sum(card) + 1))

    def test_the_code_that_there_is(self):
        with self.assertRaises(HasCode) as caught:
            no_tree((2, 1), 3, 2)
        card, labels = caught.exception.found
        self.assertEqual((card, labels[0]), ((2, 1), 0))
        self.assertGreaterEqual(strengths((card, labels))[0], 2)

    def test_no_strength_at_all(self):
        self.assertIsNone(no_tree((1,), 2, 2))
        self.assertIsNone(no_tree((2, 2), 4, 5))
        self.assertIsNone(no_tree((1, 1, 1), 2, 10 ** 399))
        self.assertEqual(no_tree((1,), 4, 1), ((1,), (None,) * 5))

    def test_more_states_are_told_first(self):
        for card in ((4, 1), (1, 1, 1, 1), (7, 7, 7), (1, 4), (2, 3)):
            for least in (1, 9, 10 ** 399):
                check_error(self, TooMany(9), no_tree, card, 2, least)

    def test_by_name_and_kept(self):
        self.assertEqual(no_tree(card=(1,), many=3, least=1), ((1,), (None,) * 4))
        check_error(self, HasCode(((1,), (0, 1))), no_tree, least=1, many=2, card=(1,))
        check_kept(self, no_tree, (1, 1), 3, 2)
        check_kept(self, no_tree, (1, 1), 3, 1)


def leaves(tree, way=()):
    """The ways to all nodes of a tree, each with the node."""
    yield way, tree
    if tree is not None:
        for at, node in enumerate(tree[1]):
            yield from leaves(node, way + (at,))


def exchanged(tree, way, node):
    if not way:
        return node
    return (tree[0], tree[1][:way[0]] + (exchanged(tree[1][way[0]], way[1:], node),) + tree[1][way[0] + 1:])


class TreeHolds(unittest.TestCase):
    def check(self, card, many, least, value):
        expected = reference.is_tree(card, many, least, reference.open_labels(card), value)
        self.assertIs(tree_holds(card, many, least, value), expected)
        return expected

    def test_by_the_definition(self):
        pick = random.Random(1)
        held = []
        for card, many, least in [((1, 1), 3, 2), ((3,), 3, 2), ((4,), 3, 3), ((3,), 4, 2), ((2, 1), 4, 2)]:
            tree = no_tree(card, many, least)
            for way, node in list(leaves(tree))[::3] + list(leaves(tree))[:3]:
                states = reference.levels(card)
                for other in (None, (pick.choice(states), (None,) * (many + 1)), (pick.choice(states), (node,) * (many + 1))):
                    held.append(self.check(card, many, least, exchanged(tree, way, other)))
                    held.append(self.check(card, many, least + 1, exchanged(tree, way, other)))
        self.assertGreater(held.count(True), 30)
        self.assertGreater(held.count(False), 30)

    def test_told_twice_on_one_way(self):
        for value in (((1, 1), (TREE,) * 4), ((1, 1), (None, None, None, TREE)), ((0, 1), (((0, 1), (TREE,) * 4),) * 4)):
            self.assertIs(tree_holds((1, 1), 3, 2, value), False)
        self.assertIs(tree_holds((1, 1), 3, 2, ((1, 0), (((0, 1), (TREE,) * 4),) * 4)), True)

    def test_the_empty_state_is_not_open(self):
        self.assertIs(tree_holds((1, 1), 3, 2, ((0, 0), (TREE,) * 4)), False)
        self.assertIs(tree_holds((1,), 2, 2, ((0,), (None,) * 3)), False)

    def test_none_too_early(self):
        self.assertIs(tree_holds((1, 1), 3, 2, None), False)
        self.assertIs(tree_holds((1, 1), 3, 3, None), True)
        for at in range(4):
            value = ((0, 1), (TREE,) * at + (None,) + (TREE,) * (3 - at))
            # Where (0, 1) has no label, or 0, too few states are left.
            self.check((1, 1), 3, 2, value)
        self.assertIs(tree_holds((1, 1), 3, 2, ((0, 1), (TREE, None, TREE, TREE))), False)

    def test_too_few_and_too_many_nodes(self):
        for many in range(8):
            self.assertIs(tree_holds((1, 1), 3, 2, ((1, 1), (None,) * many)), many == 4)
            self.assertIs(tree_holds((1, 1), 2, 3, ((1, 1), (None,) * many)), many == 3)
            self.assertIs(tree_holds((1, 1), 4, 2, ((1, 1), (None,) * many)), many == 5)

    def test_other_kinds(self):
        for value in [item for item in ODD_VALUES if item is not None] + [
                [(1, 1), (None,) * 4], ((1, 1), [None] * 4), ([1, 1], (None,) * 4), ((1, 1), None), ((1, 1),), (None,) * 4,
                ((1, 1), (None,) * 4, None), ((1, True), (None,) * 4), ((1, 2), (None,) * 4), ((1,), (None,) * 4),
                ((1, 1), (None, None, None, 0)), ((1, 1), (None, None, None, False)), ((1, 1), (None, (), None, None)),
                ((1, 1), {0: None}), (None, (None,) * 4), ("11", (None,) * 4), ((1, 1), "None"), (TREE, TREE)]:
            self.assertIs(tree_holds((1, 1), 3, 2, value), False)
            check_kept(self, tree_holds, (1, 1), 3, 2, value)
        # Where None does, all else has to be right as well.
        for value in [item for item in ODD_VALUES if item is not None] + [((1, 1), (None, None, None, 0))]:
            self.assertIs(tree_holds((1, 1), 3, 9, value), False)
        self.assertIs(tree_holds((1, 1), 3, 9, TREE), True)
        self.assertIs(tree_holds((1, 1), 3, 9, ((0, 1), (TREE,) * 4)), True)

    def test_great_cards(self):
        for card in GREAT_CARDS:
            self.assertIs(tree_holds(card, 4, sum(card) + 1, None), True)
            self.assertIs(tree_holds(card, 4, sum(card), None), False)
            told = (card, (None,) * 5)
            self.assertIs(tree_holds(card, 4, sum(card), told), True)
            self.assertIs(tree_holds(card, 4, sum(card) - 1, told), False)
            self.assertIs(tree_holds(card, 4, sum(card), ((1,) + (0,) * (len(card) - 1), (told,) * 5)), True)
            self.assertIs(tree_holds(card, 4, sum(card), ((1,) + (0,) * (len(card) - 1), (told,) * 4 + (None,))), False)
        tree = no_tree((2, 2), 4, 3)
        self.assertIs(tree_holds((3, 3), 4, 3, tree), False)
        self.assertIs(tree_holds((2, 2), 4, 2, tree), False)
        self.assertIs(tree_holds((2, 2), 3, 3, tree), False)

    def test_by_name(self):
        self.assertIs(tree_holds(card=(1, 1), many=3, least=2, value=TREE), True)
        self.assertIs(tree_holds(value=None, least=2, many=3, card=(1, 1)), False)


class WhatHolds(unittest.TestCase):
    """[E6]."""

    def test_never_below_a_filling(self):
        pick = random.Random(2)
        for seed, card in enumerate(reference.SMALL_CARDS + [(2, 3), (2, 1, 1)]):
            for many in (2, 3, 4):
                for labels in some_labels(card, many, seed + 50, 12):
                    hope = hopeful(card, many, labels)
                    names = list(range(many)) + [None]
                    for _ in range(6):
                        filled = tuple(pick.choice(names) if name == "open" else name for name in labels)
                        if set(filled) - {None} == set(range(many)):
                            self.assertLessEqual(strengths((card, filled))[0], hope)
                        self.assertLessEqual(hopeful(card, many, filled), hope)

    def test_more_open_is_never_less(self):
        pick = random.Random(3)
        for seed, card in enumerate(reference.SMALL_CARDS):
            for labels in some_labels(card, 3, seed + 90, 15):
                wider = labels[:1] + tuple("open" if pick.random() < 0.3 else name for name in labels[1:])
                self.assertLessEqual(hopeful(card, 3, labels), hopeful(card, 3, wider))

    def test_a_code_or_a_tree(self):
        for card in reference.SMALL_CARDS:
            for many in (2, 3, 4):
                for least in range(1, sum(card) + 2):
                    try:
                        tree = no_tree(card, many, least)
                    except HasCode as error:
                        self.assertIsNotNone(best_code(card, many, least))
                        self.assertGreaterEqual(strengths(error.found)[0], least)
                        self.assertIs(tree_holds(card, many, least, None), False)
                    else:
                        self.assertIsNone(best_code(card, many, least))
                        for further in (least, least + 1, least + 5):
                            self.assertIs(tree_holds(card, many, further, tree), True)
                        self.assertIs(tree_holds(card, many, least - 1, tree), False)


if __name__ == "__main__":
    unittest.main()
