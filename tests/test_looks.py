"""[J1] to [J5]: look trees, how few looks are enough, and the foe's trees."""

import functools
import itertools
import random
import unittest

import reference
from onlyhigher.looks import depth, least_looks, look_error, look_foe, look_foe_holds, look_tree
from samples import ODD_VALUES, check_kept, same

FIRST = ((1, 1), (0, 0, 1, None))
CHOSEN = ((1, 1, 1), (0, 0, 1, 1, 0, 1, 0, 1))
BIT = (("read", 0), ("read", 1))
GOOD = ("look", 0, (("look", 1, BIT), ("look", 2, BIT)))
TWO = ("open", (0, 0, 0), (0, 1, 0))
OPEN_STILL = ("answers", ((0, TWO), (0, ("open", (0, 0, 0), (1, 0, 1))), (0, TWO)))


def fitting(code, answers):
    """The states that fit the answers, a dict from cells to levels."""
    return [state for state in reference.levels(code[0]) if all(state[cell] == level for cell, level in answers.items())]


def is_open(code, answers):
    return len({reference.table(code)[state] for state in fitting(code, answers)}) > 1


def brute_least(code):
    """[J3]: so many looks are enough if some cell is such that one look less is, whatever it tells."""
    card = code[0]

    @functools.lru_cache(maxsize=None)
    def enough(answers, many):
        known = dict(answers)
        if not is_open(code, known):
            return True
        return many > 0 and any(
            all(enough(answers + ((cell, level),), many - 1) for level in range(card[cell] + 1))
            for cell in range(len(card)) if cell not in known)

    many = 0
    while not enough((), many):
        many += 1
    return many


def brute_depth(tree):
    return 0 if tree[0] == "read" else 1 + max(brute_depth(further) for further in tree[2])


def comes_to(tree, state):
    return tree[1] if tree[0] == "read" else comes_to(tree[2][state[tree[1]]], state)


def is_right(code, tree):
    return all(same(comes_to(tree, state), name) for state, name in reference.table(code).items())


def is_look_tree(card, tree, looked=()):
    if tree[0] == "read":
        return len(tree) == 2
    _, cell, trees = tree
    return cell not in looked and len(trees) == card[cell] + 1 and all(
        is_look_tree(card, further, looked + (cell,)) for further in trees)


def is_foe_tree(code, most, answers, value):
    """[J4], for tuples of the right forms."""
    if most == 0:
        word, s, t = value
        return word == "open" and {s, t} <= set(fitting(code, answers)) and (
            reference.table(code)[s] != reference.table(code)[t])
    word, pairs = value
    cells = [cell for cell in range(len(code[0])) if cell not in answers]
    return word == "answers" and len(cells) == len(pairs) > 0 and all(
        level in range(code[0][cell] + 1) and is_foe_tree(code, most - 1, {**answers, cell: level}, tree)
        for cell, (level, tree) in zip(cells, pairs))


def codes():
    yield from list(reference.small_codes())[::2]
    yield CHOSEN
    yield FIRST
    pick = random.Random(3)
    for card in ((1, 1, 1), (1, 1, 1, 1), (2, 1, 1), (1, 2, 2)):
        # Few labels, so that often not all cells have to be looked at.
        for _ in range(25):
            cells = pick.sample(range(len(card)), 2)
            names = {pair: pick.choice([0, 1, None, "a"]) for pair in itertools.product(range(3), repeat=2)}
            labels = tuple(names[tuple(state[cell] for cell in cells)] for state in reference.levels(card))
            if labels[0] is not None and len(set(labels) - {None}) > 1:
                yield card, labels


CODES = list(codes())


def great_codes():
    pick = random.Random(6)
    yield from reference.GREAT
    for card in ((7, 7, 7), (3, 3, 3, 1, 1, 1), (1, 1, 1, 1, 1, 1), (7, 7, 3, 1), (1, 7, 1, 3, 1)):
        yield card, tuple(pick.choice([0, 1]) for _ in reference.levels(card))
        yield card, tuple(pick.choice(list(range(63)) + [None]) if at else 63 for at, _ in enumerate(reference.levels(card)))
        # The first cell tells at which other one the label stands.
        many = len(card) - 1
        yield card, tuple(state[1 + state[0] % many] % 2 if state[0] % many else "ab"[state[1] % 2] for state in reference.levels(card))


class LookError(unittest.TestCase):
    def test_forms(self):
        for value in ODD_VALUES + [list(GOOD), ["read", 0], ("read",), ("read", 0, 0), ("reads", 0), (0, "read"), ("look", 0),
                                   ("look", BIT, 0), ("look", 0, BIT, 0), ("read", 0, BIT), ("look", BIT), "read", "look",
                                   ("read", True), ("read", 1000), ("read", -1), ("read", ()), ("read", [0]), ("read", "A"),
                                   ("read", ((0,),)), ("read", {}), ("look", True, BIT), ("look", None, BIT), ("look", "0", BIT),
                                   ("look", (0,), BIT), ("look", 0, list(BIT)), ("look", 0, None), ("look", 0, "ab"),
                                   ("look", 0, BIT[:1] + (None,)), ("look", 0, BIT[:1] + (["read", 1],)),
                                   ("look", 0, (("look", 1, BIT), ("look", False, BIT))), ("look", 9, (("look", 1, ("read", 0)),)),
                                   ("look", 9, ((),)), ("look", 0, (BIT,)), ("look", 0, ({},)), ("look", 0, (0, 1))]:
            self.assertEqual(look_error(CHOSEN, value), "form", value)
            check_kept(self, look_error, CHOSEN, value)

    def test_cells(self):
        for cell in (3, -1, 10 ** 399, -3):
            self.assertEqual(look_error(CHOSEN, ("look", cell, BIT)), ("cell", ()))
            self.assertEqual(look_error(CHOSEN, ("look", 0, (BIT[0], ("look", cell, BIT)))), ("cell", (1,)))
        self.assertEqual(look_error(CHOSEN, ("look", 0, (("look", 0, BIT), BIT[1]))), ("cell", (0,)))
        deep = ("look", 0, (BIT[0], ("look", 1, (("look", 2, BIT), ("look", 0, BIT)))))
        self.assertEqual(look_error(CHOSEN, deep), ("cell", (1, 1)))
        # The same cell may be looked at on two ways.
        self.assertIsNone(look_error(CHOSEN, ("look", 1, (
            ("look", 0, (BIT[0], ("look", 2, BIT))), ("look", 0, (BIT[1], ("look", 2, BIT)))))))

    def test_numbers_of_trees(self):
        for trees in ((), BIT[:1], BIT + BIT[:1], BIT + BIT):
            self.assertEqual(look_error(CHOSEN, ("look", 0, trees)), ("cell", ()))
            self.assertEqual(look_error(CHOSEN, ("look", 0, (BIT[0], ("look", 1, trees)))), ("cell", (1,)))
        code = ((2, 1), (0, 0, 1, 1, None, None))
        self.assertIsNone(look_error(code, ("look", 0, BIT + (("read", None),))))
        self.assertEqual(look_error(code, ("look", 0, BIT)), ("cell", ()))
        self.assertEqual(look_error(code, ("look", 1, BIT + (("read", None),))), ("cell", ()))

    def test_the_first_way(self):
        wrong = ("look", 7, BIT)
        self.assertEqual(look_error(CHOSEN, ("look", 7, (wrong, wrong))), ("cell", ()))
        self.assertEqual(look_error(CHOSEN, ("look", 0, (("look", 1, (BIT[0], wrong)), wrong))), ("cell", (0, 1)))
        self.assertEqual(look_error(CHOSEN, ("look", 0, (BIT[0], ("look", 0, (wrong, BIT[1]))))), ("cell", (1,)))
        # A way may also lead to a tree that is one too many.
        self.assertEqual(look_error(CHOSEN, ("look", 0, BIT + (wrong,))), ("cell", ()))

    def test_the_first_state(self):
        self.assertEqual(look_error(CHOSEN, ("read", 0)), ("label", (0, 1, 0)))
        self.assertEqual(look_error(CHOSEN, ("read", 1)), ("label", (0, 0, 0)))
        self.assertEqual(look_error(CHOSEN, ("look", 2, BIT)), ("label", (0, 0, 1)))
        self.assertEqual(look_error(FIRST, ("look", 0, BIT)), ("label", (1, 1)))
        self.assertEqual(look_error(FIRST, ("look", 0, (("read", 0), ("look", 1, (("read", 1), ("read", 1)))))), ("label", (1, 1)))
        self.assertEqual(look_error(FIRST, ("look", 0, (("read", 0), ("read", None)))), ("label", (1, 0)))
        self.assertEqual(look_error(FIRST, ("look", 0, (("read", (0,)), ("read", None)))), ("label", (0, 0)))

    def test_order_of_faults(self):
        self.assertEqual(look_error(CHOSEN, ("look", 7, (BIT[0], ("read", True)))), "form")
        self.assertEqual(look_error(CHOSEN, ("look", 0, (("read", 9), ("look", 0, BIT)))), ("cell", (1,)))

    def test_all_small_trees(self):
        # All trees of depth 2 and less over two cells, right or wrong.
        reads = [("read", name) for name in (0, 1, None)]
        looks = [("look", cell, trees) for cell in (0, 1) for trees in itertools.product(reads, repeat=2)]
        for tree in reads + looks + [("look", cell, trees) for cell in (0, 1) for trees in itertools.product(reads + looks, repeat=2)]:
            found = look_error(FIRST, tree)
            if not is_look_tree(FIRST[0], tree):
                self.assertEqual(found[0], "cell")
            else:
                wrong = [state for state, name in reference.table(FIRST).items() if comes_to(tree, state) != name]
                self.assertEqual(found, ("label", wrong[0]) if wrong else None)

    def test_by_name(self):
        self.assertIsNone(look_error(code=CHOSEN, value=GOOD))
        self.assertEqual(look_error(value=None, code=CHOSEN), "form")


class Depth(unittest.TestCase):
    def test_depths(self):
        self.assertEqual(depth(("read", None)), 0)
        self.assertEqual(depth(("look", 3, (("read", 1), ("read", 1)))), 1)
        self.assertEqual(depth(("look", 1, (GOOD, ("read", 7), GOOD))), 3)
        self.assertEqual(depth(("look", 1, (("read", 7), GOOD))), 3)
        self.assertEqual(depth(tree=GOOD), 2)
        check_kept(self, depth, GOOD)


class LeastLooks(unittest.TestCase):
    def test_by_the_definition(self):
        seen = set()
        for code in CODES:
            found = least_looks(code)
            seen.add((found, len(code[0])))
            self.assertTrue(same(found, brute_least(code)), code)
        self.assertTrue({(1, 1), (1, 2), (2, 2), (1, 3), (2, 3), (3, 3), (2, 4)} <= seen)

    def test_trees(self):
        for code in CODES + list(great_codes()):
            tree = look_tree(code)
            self.assertTrue(is_look_tree(code[0], tree))
            self.assertTrue(is_right(code, tree))
            self.assertEqual(brute_depth(tree), least_looks(code))

    def test_labels_and_none(self):
        self.assertEqual(look_tree(((1,), (5, "a"))), ("look", 0, (("read", 5), ("read", "a"))))
        self.assertEqual(look_tree(((2,), (5, None, (1,)))), ("look", 0, (("read", 5), ("read", None), ("read", (1,)))))
        self.assertEqual(look_tree(((1, 1), (0, 1, 0, 1))), ("look", 1, BIT))

    def test_by_name_and_kept(self):
        self.assertEqual(least_looks(code=CHOSEN), 2)
        self.assertEqual(look_tree(code=((1,), (0, 1))), ("look", 0, BIT))
        check_kept(self, least_looks, CHOSEN)
        check_kept(self, look_tree, CHOSEN)


class LookFoe(unittest.TestCase):
    def test_by_the_definition(self):
        for code in CODES + list(great_codes()):
            least = least_looks(code)
            for most in range(least):
                tree = look_foe(code, most)
                self.assertTrue(is_foe_tree(code, most, {}, tree), (code, most))
                self.assertIs(look_foe_holds(code, most, tree), True)
            for most in (least, least + 1, 7, 100, 10 ** 9):
                self.assertIsNone(look_foe(code, most))
                self.assertIs(look_foe_holds(code, most, None), False)

    def test_by_name_and_kept(self):
        self.assertIsNone(look_foe(code=CHOSEN, most=2))
        self.assertIs(look_foe_holds(code=CHOSEN, most=1, value=look_foe(most=1, code=CHOSEN)), True)
        for most in range(4):
            check_kept(self, look_foe, CHOSEN, most)


def changed(value):
    """All values that come of a nested tuple by one small change in it."""
    if isinstance(value, tuple):
        yield list(value)
        yield value[:-1]
        yield value + value[-1:]
        for at, item in enumerate(value):
            for other in changed(item):
                yield value[:at] + (other,) + value[at + 1:]
    elif isinstance(value, str):
        yield from ("look", "answers", "open", None)
    else:
        yield from (0, 1, 2, -1, True, False, None, "0", (0,), 10 ** 399)


class LookFoeHolds(unittest.TestCase):
    def is_form(self, value, most):
        """The forms of [J4], up to what is asked of levels and states."""
        def is_state(item):
            return isinstance(item, tuple) and len(item) == 3 and all(level in (0, 1) and level is not True and level is not False for level in item)

        if not isinstance(value, tuple):
            return False
        if most == 0:
            return len(value) == 3 and is_state(value[1]) and is_state(value[2])
        return len(value) == 2 and isinstance(value[1], tuple) and all(
            isinstance(pair, tuple) and len(pair) == 2 and isinstance(pair[0], int) and not isinstance(pair[0], bool)
            and self.is_form(pair[1], most - 1) for pair in value[1])

    def test_changed_trees(self):
        held = 0
        for most, tree in ((0, TWO), (1, OPEN_STILL), (1, look_foe(CHOSEN, 1)), (0, look_foe(CHOSEN, 0))):
            for value in changed(tree):
                expected = self.is_form(value, most) and is_foe_tree(CHOSEN, most, {}, value)
                held += expected and value != tree
                self.assertIs(look_foe_holds(CHOSEN, most, value), expected, value)
        self.assertGreater(held, 3)

    def test_all_open_states(self):
        names = reference.table(FIRST)
        for s, t in itertools.product(reference.levels((1, 1)), repeat=2):
            self.assertIs(look_foe_holds(FIRST, 0, ("open", s, t)), names[s] != names[t])
            # Behind the answers 1 and 1 no other state fits.
            value = ("answers", ((1, ("open", s, t)), (0, ("open", (0, 0), (1, 0)))))
            self.assertIs(look_foe_holds(FIRST, 1, value), names[s] != names[t] and s[0] == t[0] == 1)

    def test_all_cells_in_the_answers(self):
        tree = ("answers", ())
        for code in (((1,), (0, 1)), ((2,), (0, None, 1))):
            for most in range(4):
                self.assertIs(look_foe_holds(code, most, tree), False)
                self.assertIs(look_foe_holds(code, most, ("answers", ((0, tree),))), False)
                self.assertIs(look_foe_holds(code, most, ("answers", ((0, ("open", (0,), (1,))),))), False)

    def test_other_kinds(self):
        for value in ODD_VALUES + [GOOD, ("read", 0), ("open",), ("answers",), ("answers", 0), ("answers", [TWO] * 3),
                                   ("answers", {0: TWO}), ("open", (0, 0, 0)), ("open", 0, 1), ("open", "ab", "cd"),
                                   ("open", [0, 0, 0], [0, 1, 0]), ("open", (0, 0, 0), (False, True, False)), ("open", (0, 0), (0, 1)),
                                   ("open", (0, 0, 0), (0, 2, 0)), ("open", (0, 0, 0), (0, 1, 0), ())]:
            for most in (0, 1, 2, 3, 50):
                self.assertIs(look_foe_holds(CHOSEN, most, value), False)
            check_kept(self, look_foe_holds, CHOSEN, 1, value)

    def test_other_numbers_of_looks(self):
        for code in CODES[::9]:
            for most in range(least_looks(code)):
                tree = look_foe(code, most)
                for other in range(6):
                    self.assertIs(look_foe_holds(code, other, tree), other == most)


class WhatHolds(unittest.TestCase):
    """[J5]."""

    def test_one_of_both(self):
        for code in CODES:
            tree = look_tree(code)
            self.assertIsNone(look_error(code, tree))
            for most in range(len(code[0]) + 2):
                foe = look_foe(code, most)
                self.assertEqual(foe is None, depth(tree) <= most)
                self.assertIs(look_foe_holds(code, most, foe), foe is not None)


if __name__ == "__main__":
    unittest.main()
