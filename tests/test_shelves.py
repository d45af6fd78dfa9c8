"""[L1] to [L4] and [L8]: what is left to be written on a shelf, shelves, and what numbers of edits make of them."""

import functools
import itertools
import random
import unittest

import reference
from onlyhigher.errors import BadCode, BadTape, NoName, NoState, NoValue, Spent, TooMany, Unfit
from onlyhigher.shelves import Shelf, edits_left, record_of, shelf_behind
from onlyhigher.strengths import strengths
from samples import ODD_VALUES, check_error, check_given, check_kept, same

ONCE, PARITY, LINE = ((1,), (0, 1)), ((1, 1), (0, 1, 1, 0)), ((3,), ("a", "b", "c", "a"))
GAP = ((1, 1), (0, 1, 1, None))
NAMES = ("a", "b", "c", "dd", "zzzzzzza", "zzzzzzzz")


def brute_left(code, states, spares):
    """[L2], word by word."""
    names = reference.table(code)

    @functools.lru_cache(maxsize=None)
    def can(held, left, many):
        if many == 0:
            return True
        for at, state in enumerate(held):
            for value in reference.values(code):
                if value == names[state]:
                    continue
                goals, rest = reference.ways(code, state, value), left
                if not goals and left:
                    goals, rest = [other for other in names if names[other] == value], left - 1
                if not any(can(held[:at] + (goal,) + held[at + 1:], rest, many - 1) for goal in goals):
                    return False
        return True

    return reference.greatest(lambda many: can(tuple(states), spares, many))


def labelled(code):
    return [state for state, name in reference.table(code).items() if name is not None]


def some_codes():
    return list(reference.small_codes())[::11]


class Model:
    """[L4], word by word, with the brute ranks."""

    def __init__(self, code, names, spares):
        self.code, self.names, self.spares, self.wiped = code, names, spares, 0
        self.ranks = dict(zip(reference.levels(code[0]), reference.ranks(code)))
        self.cards = {name: (0,) * len(code[0]) for name in names}
        self.gone = []

    def best(self, states):
        return sorted(states, key=lambda state: (-self.ranks[state], sum(state), state))[0]

    def fresh(self, value):
        return self.best([state for state, name in reference.table(self.code).items() if name == value])

    def reads(self, name):
        return reference.table(self.code)[self.cards[name]]

    def edit(self, name, value):
        if self.reads(name) == value:
            return "same"
        goals = reference.ways(self.code, self.cards[name], value)
        if goals:
            self.cards[name] = self.best(goals)
            return "written"
        if len(self.gone) == self.spares:
            return None
        self.gone.append(self.cards[name])
        self.cards[name] = self.fresh(value)
        return "fresh"

    def wipe(self):
        self.cards = {name: self.fresh(self.reads(name)) for name in self.names}
        self.gone = []
        self.wiped += 1
        return self.wiped


def view(shelf, names, values):
    return (
        shelf.states(), shelf.left(), shelf.spare(), [shelf.read(name) for name in names],
        [shelf.find(value) for value in values])


def model_view(model, values):
    return (
        tuple(model.cards[name] for name in model.names), tuple(model.gone), model.spares - len(model.gone),
        [model.reads(name) for name in model.names],
        [tuple(name for name in model.names if model.reads(name) == value) for value in values])


class EditsLeft(unittest.TestCase):
    def test_by_the_definition(self):
        pick, seen = random.Random(1), set()
        for code in some_codes():
            held = labelled(code)
            for many, spares in ((1, 0), (1, 1), (1, 2), (1, 3), (2, 0), (2, 1), (3, 0)):
                if len(code[1]) ** many * (spares + 1) <= 300:
                    states = tuple(pick.choice(held) for _ in range(many))
                    found = edits_left(code, states, spares)
                    self.assertTrue(same(found, brute_left(code, states, spares)), (code, states, spares))
                    seen.add((many, spares, found))
        self.assertGreater(len(seen), 25)

    def test_all_states(self):
        for code in (ONCE, PARITY, LINE, GAP, ((2,), (0, 1, 0)), ((2,), (5, None, "a"))):
            for many, spares in itertools.product((1, 2), (0, 1, 2, 3)):
                for states in itertools.product(labelled(code), repeat=many):
                    self.assertEqual(edits_left(code, states, spares), brute_left(code, states, spares))

    def test_many_names(self):
        for many in (3, 4, 5, 6):
            for states in (((0,),) * many, ((0,), (1,)) * 3, ((1,),) * many):
                for spares in (0, 1, 3):
                    self.assertEqual(edits_left(ONCE, states[:many], spares), brute_left(ONCE, states[:many], spares))

    def test_a_spare_is_taken_only_if_it_has_to_be(self):
        # At (0,) a 1 goes to (1,) or (2,), though a spare would be stronger; behind (2,) nothing is left.
        code = ((2,), (0, 1, 1))
        self.assertEqual(edits_left(code, ((0,),), 0), 1)
        self.assertEqual(edits_left(code, ((1,),), 1), 2)
        # A value that labels the empty state alone: the spare goes there, unwritten.
        self.assertEqual(edits_left(ONCE, ((1,),), 1), 2)
        self.assertEqual(edits_left(ONCE, ((1,),), 3), 6)

    def test_no_states(self):
        for state in ODD_VALUES + [(2, 0), (-1, 0), (True, 0), [0, 0], (0,), "00", 0]:
            check_given(self, NoState, state, edits_left, PARITY, (state,), 0)
            check_given(self, NoState, state, edits_left, GAP, ((1, 1), (0, 0), state, (9, 9)), 3)
            check_kept(self, edits_left, GAP, ((0, 1), state), 1)

    def test_order_of_errors(self):
        check_error(self, NoState((2, 2)), edits_left, GAP, ((1, 1), (2, 2)) + ((0, 0),) * 4, 3)
        check_error(self, NoState((2, 2)), edits_left, GAP, ((2, 2), (3, 3)), 0)
        check_error(self, Unfit(), edits_left, GAP, ((0, 0),) * 5 + ((1, 1),), 3)
        check_error(self, Unfit(), edits_left, GAP, ((1, 1),), 0)
        check_error(self, TooMany(4096), edits_left, GAP, ((0, 0),) * 6, 1)

    def test_just_so_many_and_more(self):
        cards = [((1,), 2), ((3,), 4), ((7,), 8), ((1, 7), 16), ((7, 7), 64), ((7, 7, 7), 512), ((2,), 3), ((3, 4), 20), ((4, 5, 6), 210)]
        for card, size in cards:
            code = (card, tuple(at % 2 for at in range(size)))
            for many in range(1, 7):
                for spares in range(4):
                    states = ((0,) * len(card),) * many
                    if size ** many * (spares + 1) > 4096:
                        check_error(self, TooMany(4096), edits_left, code, states, spares)
                    elif size ** many * (spares + 1) in (64, 512, 1024, 2048, 4096):
                        self.assertGreaterEqual(edits_left(code, states, spares), 1)
        self.assertEqual(edits_left(PARITY, ((0, 0),) * 6, 0), 2)
        self.assertEqual(edits_left(((7, 7), reference.sums_labels((7, 7), 3)), ((0, 0),) * 2, 0), strengths(
            ((7, 7), reference.sums_labels((7, 7), 3)))[0])

    def test_great_cards(self):
        for code in reference.GREAT:
            held = labelled(code)
            least = [edits_left(code, (held[0],), spares) for spares in range(4)]
            self.assertEqual(least[0], strengths(code)[0])
            self.assertEqual(least, sorted(least))
            self.assertEqual(edits_left(code, (held[-1],), 0), 0)

    def test_by_name_and_kept(self):
        self.assertEqual(edits_left(code=PARITY, states=((1, 1),), spares=2), 4)
        self.assertEqual(edits_left(spares=0, states=((0, 0),), code=PARITY), 2)
        check_kept(self, edits_left, PARITY, ((1, 1), (0, 0)), 1)


class LeftHolds(unittest.TestCase):
    """[L3]."""

    def test_one_name_without_spares(self):
        for code in reference.small_codes():
            for state, rank in zip(reference.levels(code[0]), strengths(code)):
                if rank is not None:
                    self.assertEqual(edits_left(code, (state,), 0), rank)

    def test_without_spares_the_least(self):
        pick = random.Random(7)
        for code in some_codes():
            ranks = dict(zip(reference.levels(code[0]), strengths(code)))
            for many in (2, 3):
                states = tuple(pick.choice(labelled(code)) for _ in range(many))
                self.assertEqual(edits_left(code, states, 0), min(ranks[state] for state in states))

    def test_one_spare_more(self):
        pick = random.Random(8)
        for code in some_codes():
            for many in (1, 2):
                states = tuple(pick.choice(labelled(code)) for _ in range(many))
                found = [edits_left(code, states, spares) for spares in range(4)]
                self.assertEqual(found, sorted(found))


class Made(unittest.TestCase):
    def test_bad_codes(self):
        for code, fault in ((None, "form"), ([], "form"), (((1, 9), ()), ("card", ("top", 1))), (((1,), (0,)), "labels"),
                            (((1,), (0, True)), ("label", 1)), (((1,), (None, 1)), "empty"), (((1,), (0, None)), "few")):
            for names, spares in (((("a",)), 0), (None, None), (("b", "a"), 4)):
                check_error(self, BadCode(fault), Shelf, code, names, spares)
                check_kept(self, Shelf, code, names, spares)
        for value in ODD_VALUES:
            check_error(self, BadCode("form"), Shelf, value, ("a",), 0)

    def test_names(self):
        for many in range(1, 7):
            self.assertEqual(len(Shelf(PARITY, NAMES[:many], 0).states()), many)
        for names in ODD_VALUES + [["a"], ("A",), ("a1",), ("a b",), ("",), ("abcdefghi",), (1,), (True,), (None,), ("b", "a"),
                                   ("a", "a"), ("a", "c", "b"), ("a", 1), (("a",),), ("a", "b", "c", "d", "e", "f", "g"), "a", "ab",
                                   ("ab", "a"), {"a": 1}, ("a", "b", "b"), (1, "a"), ("A", "a"), ("a", ("b",)),
                                   ("a", "a b", "b"), ("", "a")]:
            check_error(self, Unfit(), Shelf, PARITY, names, 0)
            check_kept(self, Shelf, PARITY, names, 0)
        self.assertEqual(Shelf(PARITY, ("a", "aa", "abcdefgh", "b"), 0).find(0), ("a", "aa", "abcdefgh", "b"))

    def test_spares(self):
        for spares in range(4):
            self.assertEqual(Shelf(PARITY, ("a",), spares).spare(), spares)
        for spares in ODD_VALUES + [4, -1, "1", (1,), [0]]:
            check_error(self, Unfit(), Shelf, PARITY, ("a",), spares)
            check_kept(self, Shelf, PARITY, ("a",), spares)

    def test_at_first(self):
        for code in some_codes() + reference.GREAT:
            shelf = Shelf(code, ("a", "b"), 2)
            state = (0,) * len(code[0])
            self.assertEqual((shelf.states(), shelf.left(), shelf.spare()), ((state, state), (), 2))
            self.assertEqual(shelf.read("b"), code[1][0])

    def test_by_name(self):
        shelf = Shelf(spares=1, names=("ann", "bo"), code=PARITY)
        self.assertEqual(shelf.edit(value=1, name="bo"), "written")
        self.assertEqual((shelf.read(name="bo"), shelf.find(value=1)), (1, ("bo",)))
        self.assertEqual(shelf.edit("bo", value=1), "same")


class Edits(unittest.TestCase):
    def test_by_the_definition(self):
        pick, seen = random.Random(2), set()
        for code in some_codes() + [GAP, LINE, PARITY]:
            values = reference.values(code)
            for spares in range(4):
                names = NAMES[:pick.randrange(1, 5)]
                shelf, model = Shelf(code, names, spares), Model(code, names, spares)
                for _ in range(30):
                    name, value = pick.choice(names), pick.choice(values)
                    expected = model.edit(name, value)
                    seen.add(expected)
                    if expected is None:
                        check_error(self, Spent(), shelf.edit, name, value)
                        if pick.random() < 0.3:
                            self.assertEqual(shelf.wipe(), model.wipe())
                    else:
                        self.assertEqual(shelf.edit(name, value), expected)
                    self.assertTrue(same(view(shelf, names, values), model_view(model, values)))
        self.assertEqual(seen, {"same", "written", "fresh", None})

    def test_names_and_values(self):
        shelf = Shelf(PARITY, ("ann", "bo"), 1)
        for name in ODD_VALUES + ["an", "annn", "cy", ("ann",), ["bo"], 0]:
            check_given(self, NoName, name, shelf.read, name)
            check_kept(self, shelf.edit, name, 0)
            for value in (0, 1, 2, None, []):
                check_given(self, NoName, name, shelf.edit, name, value)
        for value in ODD_VALUES + [2, "0", (0,), [1], "ann"]:
            check_given(self, NoValue, value, shelf.edit, "ann", value)
            check_kept(self, shelf.edit, "ann", value)
            self.assertEqual(shelf.find(value), ())
        self.assertEqual(shelf.find(True), ())
        self.assertEqual(shelf.find(False), ())
        self.assertEqual((shelf.states(), shelf.left(), shelf.spare()), (((0, 0), (0, 0)), (), 1))
        mixed = Shelf(((3,), ("a", ("a",), 1, (1, "a"))), ("x",), 0)
        self.assertEqual([mixed.find(value) for value in ("a", ("a",), ["a"], 1)], [("x",), (), (), ()])
        check_given(self, NoValue, (True, "a"), mixed.edit, "x", (True, "a"))

    def test_spent_changes_nothing(self):
        shelf = Shelf(ONCE, ("a", "b"), 1)
        self.assertEqual([shelf.edit("a", 1), shelf.edit("a", 0), shelf.edit("a", 1)], ["written", "fresh", "written"])
        before = view(shelf, ("a", "b"), (0, 1))
        check_error(self, Spent(), shelf.edit, "a", 0)
        self.assertEqual(view(shelf, ("a", "b"), (0, 1)), before)
        self.assertEqual(before, (((1,), (0,)), ((1,),), 0, [1, 0], [("b",), ("a",)]))
        self.assertEqual(shelf.edit("b", 1), "written")

    def test_the_value_of_the_empty_state_alone(self):
        shelf = Shelf(((2,), (0, 1, 2)), ("a",), 1)
        self.assertEqual([shelf.edit("a", 2), shelf.edit("a", 0), shelf.states(), shelf.left()], ["written", "fresh", ((0,),), ((2,),)])

    def test_fresh_states(self):
        strong = ((1, 3), (0, None, 1, 0, 1, None, None, None))
        near = ((1, 2), (0, None, 1, 1, None, 0))
        for code, first, last, fresh in ((strong, (0, 2), (0, 3), (0, 2)), (near, (1, 0), (1, 2), (1, 0)), (
                PARITY, (0, 1), (1, 1), (0, 1))):
            shelf = Shelf(code, ("a",), 1)
            for value, told, state in ((1, "written", first), (0, "written", last), (1, "fresh", fresh)):
                self.assertEqual((shelf.edit("a", value), shelf.states()), (told, (state,)))
            shelf.wipe()
            self.assertEqual(shelf.states(), (fresh,))

    def test_left_in_order(self):
        shelf = Shelf(PARITY, ("a", "b"), 3)
        for name, value in (("b", 1), ("b", 0), ("a", 1), ("b", 1), ("a", 0), ("a", 1), ("b", 0), ("b", 1)):
            shelf.edit(name, value)
        self.assertEqual(shelf.left(), ((1, 1), (1, 1), (1, 1)))
        shelf = Shelf(LINE, ("a", "b"), 3)
        self.assertEqual([shelf.edit("b", "c"), shelf.edit("b", "b"), shelf.edit("a", "b"), shelf.edit("a", "a"), shelf.edit("a", "b")],
                         ["written", "fresh", "written", "written", "fresh"])
        self.assertEqual((shelf.left(), shelf.spare(), shelf.states()), (((2,), (3,)), 1, ((1,), (1,))))

    def test_what_was_returned_stays(self):
        shelf = Shelf(PARITY, ("a",), 2)
        states, left, found = shelf.states(), shelf.left(), shelf.find(0)
        for value in (1, 0, 1, 0):
            shelf.edit("a", value)
        shelf.wipe()
        self.assertEqual((states, left, found), (((0, 0),), (), ("a",)))


class Wipe(unittest.TestCase):
    def test_once_and_again(self):
        shelf = Shelf(PARITY, ("ann", "bo"), 2)
        for name, value in (("ann", 1), ("ann", 0), ("ann", 1), ("ann", 0), ("ann", 1), ("bo", 1)):
            shelf.edit(name, value)
        self.assertEqual((shelf.states(), shelf.left(), shelf.spare()), (((0, 1), (0, 1)), ((1, 1), (1, 1)), 0))
        self.assertEqual([shelf.wipe(), shelf.wipe()], [1, 2])
        self.assertEqual((shelf.states(), shelf.left(), shelf.spare()), (((0, 1), (0, 1)), (), 2))
        shelf.edit("bo", 0)
        self.assertEqual((shelf.wipe(), shelf.states()), (3, ((0, 1), (0, 0))))

    def test_at_first(self):
        # The empty state need not be the strongest one of its value: here it is, of the values 0 and 1 alike.
        shelf = Shelf(((2,), (0, 1, 0)), ("a",), 0)
        self.assertEqual((shelf.wipe(), shelf.states()), (1, ((0,),)))
        for code in some_codes():
            shelf, model = Shelf(code, ("a",), 1), Model(code, ("a",), 1)
            self.assertEqual((shelf.wipe(), shelf.states()), (model.wipe(), (model.cards["a"],)))


class Copy(unittest.TestCase):
    def test_own_ways(self):
        shelf = Shelf(PARITY, ("a", "b"), 2)
        for value in (1, 0, 1):
            shelf.edit("a", value)
        shelf.wipe()
        shelf.edit("a", 0)
        twin = shelf.copy()
        self.assertIsInstance(twin, Shelf)
        self.assertEqual(view(twin, ("a", "b"), (0, 1)), view(shelf, ("a", "b"), (0, 1)))
        before = view(shelf, ("a", "b"), (0, 1))
        twin.edit("b", 1)
        twin.edit("a", 1)
        self.assertEqual((twin.left(), twin.spare()), (((1, 1),), 1))
        self.assertEqual(view(shelf, ("a", "b"), (0, 1)), before)
        behind = view(twin, ("a", "b"), (0, 1))
        self.assertEqual([shelf.wipe(), shelf.wipe(), twin.copy().wipe()], [2, 3, 2])
        self.assertEqual(view(twin, ("a", "b"), (0, 1)), behind)
        self.assertEqual([twin.wipe(), shelf.wipe()], [2, 4])

    def test_copies_of_cards_that_were_left(self):
        shelf = Shelf(ONCE, ("a",), 3)
        for value in (1, 0, 1, 0):
            shelf.edit("a", value)
        twin = shelf.copy()
        self.assertEqual((twin.left(), twin.spare()), (((1,), (1,)), 1))
        twin.edit("a", 1)
        twin.edit("a", 0)
        check_error(self, Spent(), lambda: [twin.edit("a", 1), twin.edit("a", 0)])
        self.assertEqual((shelf.left(), shelf.spare(), shelf.states()), (((1,), (1,)), 1, ((0,),)))


class RecordOf(unittest.TestCase):
    def test_numbers(self):
        code = ((3,), ("b", 7, (0,), "a"))
        order = [7, "a", "b", (0,)]
        for many in range(1, 7):
            for at, name in enumerate(NAMES[:many]):
                for place, value in enumerate(order):
                    self.assertEqual(record_of(code, NAMES[:many], name, value), 4 * at + place)

    def test_errors(self):
        for name in ODD_VALUES + ["c", "A", ("a",), ["a"]]:
            for value in (0, 5, None):
                check_given(self, NoName, name, record_of, PARITY, ("a", "b"), name, value)
            check_kept(self, record_of, PARITY, ("a", "b"), name, 0)
        for value in ODD_VALUES + [2, "a", (0,), [1]]:
            check_given(self, NoValue, value, record_of, PARITY, ("a", "b"), "a", value)
            check_kept(self, record_of, PARITY, ("a", "b"), "b", value)

    def test_by_name(self):
        self.assertEqual(record_of(code=PARITY, names=("a", "b"), name="b", value=0), 2)
        self.assertEqual(record_of(value="a", name="a", names=("a",), code=LINE), 0)


class ShelfBehind(unittest.TestCase):
    def test_by_the_edits(self):
        pick = random.Random(3)
        for code in some_codes() + [PARITY, LINE]:
            values = sorted(reference.values(code), key=reference.order_key)
            for spares in range(4):
                names = NAMES[:pick.randrange(1, 7)]
                records = tuple(pick.randrange(len(names) * len(values)) for _ in range(pick.randrange(12)))
                shelf, model = None, Model(code, names, spares)
                for place, record in enumerate(records):
                    if model.edit(names[record // len(values)], values[record % len(values)]) is None:
                        check_error(self, BadTape(place), shelf_behind, code, names, spares, records)
                        records = records[:place]
                        break
                shelf = shelf_behind(code, names, spares, records)
                self.assertIsInstance(shelf, Shelf)
                self.assertEqual(view(shelf, names, values), model_view(model, values))
                self.assertEqual(shelf.wipe(), 1)

    def test_numbers_that_are_none(self):
        for record in (4, 5, 7, 4096, 10 ** 399):
            for place in range(3):
                records = (1, 0, 3)[:place] + (record,) + (9, 9)
                check_error(self, BadTape(place), shelf_behind, PARITY, ("ann", "bo"), 1, records)
        self.assertEqual(shelf_behind(PARITY, ("ann", "bo"), 1, (3,)).read("bo"), 1)
        self.assertEqual(shelf_behind(PARITY, ("ann",), 1, (1,)).read("ann"), 1)
        check_error(self, BadTape(0), shelf_behind, PARITY, ("ann",), 1, (2,))

    def test_no_spare(self):
        self.assertEqual(shelf_behind(ONCE, ("a",), 1, (1, 0, 1)).states(), ((1,),))
        check_error(self, BadTape(3), shelf_behind, ONCE, ("a",), 1, (1, 0, 1, 0))
        check_error(self, BadTape(1), shelf_behind, ONCE, ("a",), 0, (1, 0, 9))

    def test_what_a_shelf_raises(self):
        for code, names, spares in ((None, ("a",), 0), (((1,), (0, 0)), ("a",), 0)):
            check_error(self, BadCode("form" if code is None else "few"), shelf_behind, code, names, spares, (9,))
        for names, spares in ((["a"], 0), (("b", "a"), 0), (("a",), 4), (("a",), True), ((), 1), (None, None)):
            check_error(self, Unfit(), shelf_behind, PARITY, names, spares, (99, 99))
            check_kept(self, shelf_behind, PARITY, names, spares, (99,))
        for value in ODD_VALUES:
            check_error(self, BadCode("form"), shelf_behind, value, ("a",), 0, ())
            check_error(self, Unfit(), shelf_behind, PARITY, value, 0, ())
            check_error(self, Unfit(), shelf_behind, PARITY, ("a",), value, ())

    def test_by_name(self):
        shelf = shelf_behind(code=PARITY, names=("a",), spares=0, records=(1,))
        self.assertEqual(shelf.edit("a", 0), "written")
        self.assertEqual(shelf_behind(records=(), spares=3, names=("a",), code=PARITY).spare(), 3)

    def test_great_codes(self):
        pick = random.Random(5)
        for code in reference.GREAT:
            values = sorted(reference.values(code), key=reference.order_key)
            records = tuple(pick.randrange(3 * len(values)) for _ in range(5))
            shelf = Shelf(code, ("a", "b", "c"), 3)
            for record in records:
                name, value = ("a", "b", "c")[record // len(values)], values[record % len(values)]
                self.assertEqual(record_of(code, ("a", "b", "c"), name, value), record)
                shelf.edit(name, value)
            self.assertEqual(view(shelf_behind(code, ("a", "b", "c"), 3, records), "abc", values), view(shelf, "abc", values))


if __name__ == "__main__":
    unittest.main()
