"""[M1] to [M3]: benches, their edits, and what is taken back."""

import random
import unittest

import reference
from onlyhigher import errors
from onlyhigher.alike import led
from onlyhigher.benches import Bench
from onlyhigher.codes import code_error, values_of
from onlyhigher.errors import (
    BadBatch, BadCard, BadCode, NoState, NothingToRedo, NothingToUndo, NoVersion, Rejected, TooManyEdits, Unfit)
from onlyhigher.strengths import strength, strengths
from onlyhigher.together import lifted
from samples import ODD_VALUES, check_error, check_given, check_kept, same

GAP = ((1, 1), (0, 1, 1, None))
MIXED = ((1, 2), ("up", None, (3, "ab"), "up", 7, (3,)))
RENAMES = ((0, "off"), (1, "on"))


def view(bench):
    """All that a bench tells."""
    return repr((
        bench.code, bench.version, len(bench), list(bench), [bench[state] for state in reference.levels(bench.code[0])],
        bench.strength(), [bench.at(version) for version in range(bench.version + 1)]))


def redone(bench):
    """The codes that redo brings back, one behind another, by a copy."""
    twin, found = bench.copy(), []
    while True:
        try:
            twin.redo()
        except NothingToRedo:
            return found
        found.append(twin.code)


def everything(bench):
    return view(bench), redone(bench)


def check_refused(case, bench, error, call, *args):
    """The call raises just this error and changes nothing."""
    before = everything(bench)
    check_error(case, error, call, *args)
    case.assertEqual(everything(bench), before)


def some_edits():
    """Edits of GAP, each as a part of a batch, with the code behind it."""
    yield ("relabel", (1, 1), 0), ((1, 1), (0, 1, 1, 0))
    yield ("relabel", (0, 1), None), ((1, 1), (0, None, 1, None))
    yield ("relabel", (0, 0), 0), GAP
    yield ("rename", RENAMES), ((1, 1), ("off", "on", "on", None))
    yield ("reorder", (1, 0)), GAP
    yield ("reorder", (0, 1)), GAP
    yield ("lift", (1, 1)), GAP
    yield ("lift", (1, 2)), ((1, 2), (0, 1, None, 1, None, None))
    yield ("lift", (1, 1, 1)), ((1, 1, 1), (0, None, 1, None, 1, None, None, None))


def do(bench, edit):
    return getattr(bench, edit[0])(*edit[1:])


REFUSED = [
    (("relabel", (2, 0), 0), NoState((2, 0))), (("relabel", (0, 0), None), BadCode("empty")),
    (("relabel", (0, 1), 1000), BadCode(("label", 1))), (("rename", ()), Unfit()), (("reorder", (0, 0)), Unfit()),
    (("lift", (9,)), BadCard(("top", 0))), (("lift", (7,)), Unfit()),
]


class Made(unittest.TestCase):
    def test_bad_codes(self):
        for value in ODD_VALUES + [[GAP], list(GAP), GAP + ((),), ((1,), (0, 0)), ((1, 1), [0, 1, 1, 0]), ((1, 9), ()), ((), (0,)),
                                   ((1,), (None, 1)), ((1,), (0, True)), ((1,), (0, 1, 0)), ((7,) * 6, ())]:
            check_error(self, BadCode(code_error(value)), Bench, value)
            check_kept(self, Bench, value)

    def test_at_first(self):
        for code in [GAP, MIXED] + list(reference.small_codes())[::20] + reference.GREAT:
            bench = Bench(code=code)
            self.assertEqual((bench.code, bench.version, bench.at(0)), (code, 0, code))
            check_error(self, NothingToUndo(), bench.undo)
            check_error(self, NothingToRedo(), bench.redo)

    def test_read_only(self):
        bench = Bench(GAP)
        for name in ("code", "version"):
            with self.assertRaises(AttributeError):
                setattr(bench, name, 0)
        self.assertEqual((bench.code, bench.version), (GAP, 0))


class Asked(unittest.TestCase):
    def test_states_and_labels(self):
        for code in [GAP, MIXED] + list(reference.small_codes())[::20] + reference.GREAT:
            bench, table = Bench(code), reference.table(code)
            self.assertEqual(len(bench), len(table))
            self.assertEqual(list(bench), [state for state in table if table[state] is not None])
            for state, name in list(table.items())[:40]:
                self.assertTrue(same(bench[state], name))
            self.assertEqual(bench.strength(), strengths(code)[0])
            self.assertEqual(bench.strength(), strength(code, (0,) * len(code[0])))

    def test_no_states(self):
        bench = Bench(GAP)
        for given in ODD_VALUES + [(2, 0), (0, -1), (True, 0), [0, 0], (0,), (0, 0, 0), 0, 1, "00", slice(0, 2)]:
            check_given(self, NoState, given, lambda: bench[given])
        self.assertEqual(view(bench), view(Bench(GAP)))

    def test_twice_at_once(self):
        bench = Bench(MIXED)
        states = list(bench)
        self.assertEqual([(one, other) for one in bench for other in bench], [(one, other) for one in states for other in states])
        one, other = iter(bench), iter(bench)
        self.assertEqual([next(one), next(one), next(other), next(one)], [states[0], states[1], states[0], states[2]])
        self.assertTrue(states[1] in bench and (0, 1) not in bench)

    def test_behind_edits(self):
        bench = Bench(GAP)
        bench.lift((1, 2))
        self.assertEqual((len(bench), list(bench)), (6, [(0, 0), (0, 1), (1, 0)]))
        bench.relabel((1, 2), 0)
        self.assertEqual((list(bench)[-1], bench[(1, 2)], bench.strength()), ((1, 2), 0, 2))
        bench.undo()
        self.assertEqual((len(bench), list(bench)[-1], bench[(1, 2)], bench.strength()), (6, (1, 0), None, 1))
        bench.undo()
        self.assertEqual((len(bench), list(bench)), (4, [(0, 0), (0, 1), (1, 0)]))
        check_given(self, NoState, (1, 2), lambda: bench[(1, 2)])
        bench.redo()
        self.assertEqual(len(bench), 6)

    def test_equal(self):
        bench, twin = Bench(GAP), Bench(((1, 1), (0, 1, 1, 0)))
        self.assertTrue(bench != twin and not bench == twin)
        twin.relabel((1, 1), None)
        # The versions may be unlike, the codes are equal.
        self.assertTrue(bench == twin and not bench != twin and bench == bench)
        for other in ODD_VALUES + [GAP, list(GAP), repr(bench), bench.code, 0, Bench, object(), Bench(((1, 1), (0, 1, 1, 1)))]:
            self.assertIs(bench == other, False)
            self.assertIs(bench != other, True)
            self.assertIs(other == bench, False)


class Edits(unittest.TestCase):
    def test_each_edit(self):
        for edit, behind in some_edits():
            bench = Bench(GAP)
            self.assertTrue(same((do(bench, edit), bench.version, bench.code), (1, 1, behind)))
            self.assertEqual((bench.at(0), bench.at(1)), (GAP, behind))
            self.assertEqual((bench.undo(), bench.code, bench.redo(), bench.code), (0, GAP, 1, behind))

    def test_refused(self):
        for edit, error in REFUSED:
            bench = Bench(GAP)
            check_refused(self, bench, error, do, bench, edit)
            bench.relabel((1, 1), 0)
            bench.undo()
            check_refused(self, bench, error, do, bench, edit)
            self.assertEqual(bench.redo(), 1)

    def test_by_name(self):
        bench = Bench(GAP)
        self.assertEqual(bench.relabel(value=0, state=(1, 1)), 1)
        self.assertEqual(bench.rename(names=RENAMES), 2)
        self.assertEqual(bench.reorder(order=(1, 0)), 3)
        self.assertEqual(bench.lift(card=(2, 1)), 4)
        self.assertEqual(bench.batch(edits=()), 5)
        self.assertEqual(bench.at(version=0), GAP)
        self.assertEqual(bench.attempt(work=lambda held: held.version), 5)


class Relabel(unittest.TestCase):
    def test_by_the_codes(self):
        pick = random.Random(1)
        for code in list(reference.small_codes())[::15] + [MIXED]:
            bench, labels = Bench(code), list(code[1])
            for _ in range(12):
                at = pick.randrange(len(labels))
                value = pick.choice([None, 0, 1, "a", (3,), True, -1, "A", [0], ()])
                newer = (code[0], tuple(labels[:at] + [value] + labels[at + 1:]))
                fault = code_error(newer)
                if fault is None:
                    version = bench.version
                    self.assertEqual(bench.relabel(reference.levels(code[0])[at], value), version + 1)
                    labels[at] = value
                else:
                    check_refused(self, bench, BadCode(fault), bench.relabel, reference.levels(code[0])[at], value)
                self.assertTrue(same(bench.code, (code[0], tuple(labels))))

    def test_errors(self):
        bench = Bench(GAP)
        for state in ODD_VALUES + [(2, 0), (True, 0), [0, 0], (0,), 0, "00"]:
            for value in (0, None, [], "A"):
                check_given(self, NoState, state, bench.relabel, state, value)
        for value in ODD_VALUES + ["Up", (True,), [0], {}]:
            if value is not None:
                check_error(self, BadCode(("label", 2)), bench.relabel, (1, 0), value)
                check_error(self, BadCode(("label", 0)), bench.relabel, (0, 0), value)
        check_error(self, BadCode("empty"), bench.relabel, (0, 0), None)
        check_error(self, BadCode("few"), bench.relabel, (0, 0), 1)
        check_error(self, BadCode("few"), Bench(((1,), (0, 1))).relabel, (1,), None)
        many = Bench(((7, 7), tuple(range(64))))
        self.assertEqual(many.relabel((7, 7), "a"), 1)
        check_error(self, BadCode("many"), Bench(((7, 7, 1), tuple(range(64)) * 2)).relabel, (7, 7, 1), "a")
        self.assertEqual(view(bench), view(Bench(GAP)))


class Rename(unittest.TestCase):
    def test_by_led(self):
        pick = random.Random(2)
        for code in list(reference.small_codes())[::15] + [MIXED]:
            bench = Bench(code)
            values = values_of(code)
            for newer in ([5, "z", (0, 0), ("a",), 9][:len(values)], list(values)[::-1], list(values), pick.sample(range(1000), len(values))):
                names = tuple(zip(values_of(bench.code), newer))
                expected = led(bench.code, tuple(range(len(code[0]))), names)
                bench.rename(names)
                self.assertTrue(same(bench.code, expected))

    def test_refused(self):
        bench = Bench(GAP)
        for names in ODD_VALUES + [RENAMES[:1], RENAMES[::-1], RENAMES + ((2, 2),), ((0, 1), (1, 1)), ((0, 0), (2, 1)), list(RENAMES),
                                   dict(RENAMES), ((0, 5), [1, 6]), ((0, 5), (1, 6, 7)), ((0, 5), (1,)), ((0, 5), 1), ((0, 5), "ab"),
                                   ((False, 5), (True, 6)), ((0, 5), (1, True)), ((0, 5), (1, None)), ((0, 5), (1, 1000)), ((0, 5), (1, "A")),
                                   ((0, 5), (1, ())), ((0, 5), (1, [6])), ((None, 5), (1, 6)), ((0, 5), ((1,), 6)), ((0, 5), (1, 6), (1, 6)),
                                   ((0, 5), ({}, 6))]:
            check_refused(self, bench, Unfit(), bench.rename, names)
            check_kept(self, bench.rename, names)


class Reorder(unittest.TestCase):
    def test_by_led(self):
        code = ((1, 2, 1), (0, 1, None, "a", 1, 0, None, 1, (2,), 0, 0, 1))
        for order in ((0, 1, 2), (2, 1, 0), (1, 2, 0), (0, 2, 1)):
            bench = Bench(code)
            self.assertEqual(bench.reorder(order), 1)
            self.assertEqual(bench.code, led(code, order, tuple((value, value) for value in values_of(code))))
            for state in reference.levels(bench.code[0]):
                elder = [None] * 3
                for at, cell in enumerate(order):
                    elder[cell] = state[at]
                self.assertEqual(bench[state], reference.table(code)[tuple(elder)])

    def test_refused(self):
        bench = Bench(GAP)
        for order in ODD_VALUES + [(0,), (1,), (0, 0), (1, 1), (0, 1, 2), (1, 2), (-1, 0), (0, 1, 0), [0, 1], {0: 1, 1: 0}, (False, True),
                                   (0, True), ("0", "1"), (0, None), (0, [1]), "01", ((0, 1),)]:
            check_refused(self, bench, Unfit(), bench.reorder, order)
            check_kept(self, bench.reorder, order)


class Lift(unittest.TestCase):
    def test_by_lifted(self):
        for card in ((1, 1), (2, 1), (1, 7), (7, 7, 7), (1, 1, 1, 1, 1, 1)):
            bench = Bench(GAP)
            self.assertEqual(bench.lift(card), 1)
            self.assertEqual(bench.code, lifted(GAP, card))

    def test_refused(self):
        bench = Bench(GAP)
        for card, fault in ((None, "form"), ([2, 2], "form"), ((), "form"), ((1,) * 7, "form"), ((1, 8), ("top", 1)), ((0, 9), ("top", 0)),
                            ((1, True), ("top", 1)), ((7, 7, 7, 1), "many"), ((9,), ("top", 0))):
            check_refused(self, bench, BadCard(fault), bench.lift, card)
        for card in ((1,), (7,)):
            check_refused(self, bench, Unfit(), bench.lift, card)
        check_refused(self, Bench(((2, 2), (0, 1, 0) * 3)), Unfit(), Bench(((2, 2), (0, 1, 0) * 3)).lift, (2, 1, 7))
        for card in ODD_VALUES:
            check_kept(self, bench.lift, card)
            with self.assertRaises(BadCard):
                bench.lift(card)


class Batch(unittest.TestCase):
    def test_one_edit(self):
        for many in (0, 1, 2, 11, 12):
            parts = [edit for edit, behind in some_edits() if behind == GAP]
            bench = Bench(GAP)
            self.assertEqual(bench.batch(tuple(parts * 12)[:many]), 1)
            self.assertEqual((bench.code, bench.version), (GAP, 1))
            self.assertEqual((bench.undo(), bench.redo()), (0, 1))
        for edit, behind in some_edits():
            bench = Bench(GAP)
            self.assertEqual((bench.batch((edit,)), bench.code, bench.at(0)), (1, behind, GAP))

    def test_one_behind_another(self):
        bench, twin = Bench(GAP), Bench(GAP)
        parts = (("lift", (1, 1, 2)), ("reorder", (2, 0, 1)), ("relabel", (2, 1, 1), 1), ("rename", RENAMES), ("relabel", (1, 0, 0), "off"),
                 ("reorder", (2, 1, 0)), ("lift", (2, 1, 2, 1)))
        for part in parts:
            do(twin, part)
        self.assertEqual(bench.batch(parts), 1)
        self.assertEqual(bench.code, twin.code)
        self.assertEqual((bench.undo(), bench.code), (0, GAP))

    def test_bad_batches(self):
        bench = Bench(GAP)
        good = ("relabel", (1, 1), 0)
        odd = ODD_VALUES + [list(good), ("relabel", (1, 1)), ("relabel", (1, 1), 0, 0), ("rename",), ("rename", RENAMES, ()), ("reorder",),
                            ("reorder", (0, 1), 0), ("lift",), ("lift", (1, 1), 0), ("Relabel", (1, 1), 0), ("batch", ()), ("batch", (good,)),
                            ("undo",), ("redo",), ("copy",), ("attempt", 0), ("code",), (1, 2), (None, 1), (["lift"], 1), ({}, 1), (("lift",), 1),
                            (True, 1, 1), "lift", ("at", 0), ("strength",)]
        for part in odd:
            for at in range(3):
                check_refused(self, bench, BadBatch(), bench.batch, (good,) * at + (part,) + (good,) * (2 - at))
        for value in ODD_VALUES + [[good], {"relabel": 1}, good, (good,) * 13, (good,) * 40, "relabel", None]:
            if value != ():
                check_refused(self, bench, BadBatch(), bench.batch, value)
                check_kept(self, bench.batch, value)

    def test_rejected_parts(self):
        harmless = ("reorder", (0, 1))
        for edit, _ in REFUSED:
            for at in range(12):
                bench = Bench(GAP)
                check_refused(self, bench, Rejected(at), bench.batch, (harmless,) * at + (edit,) + (harmless,) * (11 - at))
        # A later part has to be of the right form, too, and of two that are refused the first one is told.
        bench = Bench(GAP)
        check_refused(self, bench, BadBatch(), bench.batch, (REFUSED[0][0], ("lift",)))
        check_refused(self, bench, Rejected(1), bench.batch, (harmless, REFUSED[0][0], REFUSED[1][0]))
        # The code has to be right behind each part.
        check_refused(self, bench, Rejected(0), bench.batch, (("relabel", (0, 0), None), ("relabel", (0, 0), 0)))
        check_refused(self, bench, Rejected(1), bench.batch, (("rename", RENAMES), ("rename", RENAMES)))


class ManyEdits(unittest.TestCase):
    def full(self):
        bench = Bench(GAP)
        for at in range(40):
            self.assertEqual(bench.relabel((1, 1), at % 2), at + 1)
        return bench

    def test_forty_and_one_more(self):
        bench = self.full()
        for edit, _ in some_edits():
            check_refused(self, bench, TooManyEdits(), do, bench, edit)
            check_refused(self, bench, TooManyEdits(), bench.batch, (edit,))
        check_refused(self, bench, TooManyEdits(), bench.batch, ())
        self.assertEqual((bench.undo(), bench.undo(), bench.redo(), bench.relabel((1, 1), None)), (39, 38, 39, 40))
        check_refused(self, bench, TooManyEdits(), bench.relabel, (1, 1), 0)
        self.assertEqual([bench.undo() for _ in range(40)], list(range(39, -1, -1)))
        check_error(self, NothingToUndo(), bench.undo)
        self.assertEqual([bench.redo() for _ in range(40)], list(range(1, 41)))
        check_error(self, NothingToRedo(), bench.redo)

    def test_other_errors_come_ahead(self):
        bench = self.full()
        for edit, error in REFUSED:
            edit = ("lift", (1,)) if edit == ("lift", (7,)) else edit
            check_refused(self, bench, error, do, bench, edit)
            check_refused(self, bench, Rejected(1), bench.batch, (("reorder", (0, 1)), edit))
        check_refused(self, bench, BadBatch(), bench.batch, (("undo",),))
        check_refused(self, bench, BadBatch(), bench.batch, None)

    def test_parts_raise_no_too_many(self):
        bench = Bench(GAP)
        for _ in range(39):
            bench.batch((("reorder", (1, 0)),) * 12)
        self.assertEqual(bench.batch((("reorder", (1, 0)),) * 12), 40)
        check_refused(self, bench, TooManyEdits(), bench.batch, (("reorder", (1, 0)),) * 12)

    def test_great_codes(self):
        for code in reference.GREAT:
            bench = Bench(code)
            for at in range(40):
                if at % 2:
                    bench.relabel(reference.levels(bench.code[0])[-1], code[1][at % 2])
                else:
                    bench.reorder(tuple(range(len(code[0])))[::-1])
            self.assertEqual((bench.version, len(bench), bench.strength()), (40, 512, strengths(bench.code)[0]))
            for version in range(40, 0, -1):
                self.assertEqual(bench.at(version), bench.code)
                bench.undo()
            self.assertEqual(bench.code, code)


class Model:
    """[M3], word by word: the codes of all versions, and what was taken back."""

    def __init__(self, code):
        self.codes, self.undone = [code], []

    def edit(self, code):
        self.codes.append(code)
        self.undone = []


class Steps(unittest.TestCase):
    def test_by_the_definition(self):
        pick = random.Random(3)
        for _ in range(30):
            bench, model = Bench(GAP), Model(GAP)
            for _ in range(60):
                step = pick.choice(["edit", "edit", "undo", "redo", "copy"])
                if step == "undo" and len(model.codes) > 1:
                    model.undone.append(model.codes.pop())
                    self.assertEqual(bench.undo(), len(model.codes) - 1)
                elif step == "undo":
                    check_refused(self, bench, NothingToUndo(), bench.undo)
                elif step == "redo" and model.undone:
                    model.codes.append(model.undone.pop())
                    self.assertEqual(bench.redo(), len(model.codes) - 1)
                elif step == "redo":
                    check_refused(self, bench, NothingToRedo(), bench.redo)
                elif step == "copy":
                    elder = bench
                    bench = bench.copy()
                    elder.batch(())
                    elder.undo()
                elif len(model.codes) < 41:
                    value = pick.choice([None, 0, 1, "b"])
                    self.assertEqual(bench.relabel((1, 1), value), len(model.codes))
                    model.edit((model.codes[-1][0], model.codes[-1][1][:3] + (value,)))
                self.assertEqual(bench.version, len(model.codes) - 1)
                self.assertEqual([bench.at(version) for version in range(len(model.codes))], model.codes)
                self.assertEqual(redone(bench), model.undone[::-1])

    def test_an_edit_forgets(self):
        bench = Bench(GAP)
        for value in (0, 1, None):
            bench.relabel((1, 1), value)
        self.assertEqual((bench.undo(), bench.undo()), (2, 1))
        self.assertEqual(bench.batch(()), 2)
        check_refused(self, bench, NothingToRedo(), bench.redo)
        self.assertEqual((bench.undo(), bench.redo()), (1, 2))
        self.assertEqual(bench.code, ((1, 1), (0, 1, 1, 0)))

    def test_versions(self):
        bench = Bench(GAP)
        bench.relabel((1, 1), 0)
        bench.relabel((1, 1), 1)
        bench.undo()
        self.assertEqual((bench.at(0), bench.at(1)), (GAP, ((1, 1), (0, 1, 1, 0))))
        for version in [value for value in ODD_VALUES] + [2, 3, 41, -2, "0", (0,), [1]]:
            check_given(self, NoVersion, version, bench.at, version)
        check_refused(self, bench, NoVersion(2), bench.at, 2)

    def test_copies(self):
        bench = Bench(GAP)
        for value in (0, 1):
            bench.relabel((1, 1), value)
        bench.undo()
        twin = bench.copy()
        self.assertIsInstance(twin, Bench)
        self.assertTrue(twin == bench)
        self.assertEqual(everything(twin), everything(bench))
        before = everything(bench)
        twin.relabel((1, 0), None)
        self.assertEqual(everything(bench), before)
        behind = everything(twin)
        bench.redo()
        bench.lift((2, 2))
        self.assertEqual(everything(twin), behind)
        self.assertEqual((twin.undo(), twin.undo()), (1, 0))


class Attempt(unittest.TestCase):
    def begun(self):
        bench = Bench(GAP)
        for value in (0, 1, None):
            bench.relabel((1, 1), value)
        bench.undo()
        return bench

    def test_results(self):
        for result in (None, 7, [1], GAP):
            bench = self.begun()

            def work(held):
                self.assertIs(held, bench)
                held.undo()
                held.rename(((0, 5), (1, 6)))
                return result

            self.assertIs(bench.attempt(work), result)
            self.assertEqual((bench.version, bench.code), (2, ((1, 1), (5, 6, 6, 5))))
            check_error(self, NothingToRedo(), bench.redo)

    def test_errors_of_the_package(self):
        other = Bench(GAP)
        for fail, error in ((lambda held: held.relabel((9,), 0), NoState((9,))), (lambda held: other.undo(), NothingToUndo()),
                            (lambda held: held.batch((("rename", ()),)), Rejected(0)), (lambda held: strength(GAP, (1, 1)), Unfit()),
                            (lambda held: held[(7, 7)], NoState((7, 7))), (lambda held: held.at(-1), NoVersion(-1)),
                            (lambda held: Bench(0), BadCode("form"))):
            bench = self.begun()

            def work(held):
                held.undo()
                held.undo()
                held.lift((1, 1, 1))
                held.batch(())
                fail(held)

            before = everything(bench)
            check_error(self, error, bench.attempt, work)
            self.assertEqual(everything(bench), before)
            self.assertEqual(bench.redo(), 3)

    def test_the_very_error(self):
        error = errors.HigherError("no")

        def work(held):
            held.batch(())
            raise error

        bench = self.begun()
        before = everything(bench)
        with self.assertRaises(errors.HigherError) as caught:
            bench.attempt(work)
        self.assertIs(caught.exception, error)
        self.assertEqual(everything(bench), before)

    def test_other_errors(self):
        for kind in (ValueError, KeyError, ZeroDivisionError, RuntimeError):
            bench = self.begun()

            def work(held):
                held.relabel((1, 0), None)
                raise kind("no")

            with self.assertRaises(kind):
                bench.attempt(work)
            self.assertEqual((bench.version, bench.code[1][2]), (3, None))
            check_error(self, NothingToRedo(), bench.redo)

    def test_within_one_another(self):
        bench = self.begun()

        def inner(held):
            held.lift((2, 2))
            held.undo()
            held.undo()
            held.undo()
            raise Unfit()

        def outer(held):
            held.relabel((1, 0), 0)
            before = everything(held)
            check_error(self, Unfit(), held.attempt, inner)
            self.assertEqual(everything(held), before)
            self.assertEqual(held.attempt(lambda again: again.batch(())), 4)
            return held.version

        self.assertEqual((bench.attempt(outer), bench.version), (4, 4))

        def failing(held):
            outer(held)
            held.redo()

        bench = self.begun()
        before = everything(bench)
        check_error(self, NothingToRedo(), bench.attempt, failing)
        self.assertEqual(everything(bench), before)

    def test_edits_that_were_there(self):
        # No edit more is let by within an attempt, and an attempt is no edit.
        bench = Bench(GAP)
        for _ in range(40):
            bench.batch(())
        self.assertEqual(bench.attempt(lambda held: held.version), 40)
        before = everything(bench)
        check_error(self, TooManyEdits(), bench.attempt, lambda held: held.batch(()))
        self.assertEqual(everything(bench), before)
        check_error(self, NothingToRedo(), bench.redo)


class WhatWasReturned(unittest.TestCase):
    def test_stays(self):
        bench = Bench(GAP)
        code, listed, elder = bench.code, list(bench), bench.at(0)
        bench.lift((2, 2))
        bench.relabel((2, 2), 1)
        bench.undo()
        self.assertEqual((code, listed, elder), (GAP, [(0, 0), (0, 1), (1, 0)], GAP))


if __name__ == "__main__":
    unittest.main()
