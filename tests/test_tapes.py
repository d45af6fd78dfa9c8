"""[L5] to [L7]: tapes, and [L8] with them."""

import itertools
import random
import unittest

import reference
from onlyhigher.errors import BadTape, Spent, Unfit
from onlyhigher.shelves import Shelf, record_of, shelf_behind
from onlyhigher.tapes import blank_tape, raised, striking, tape_error, whole_records, writing
from samples import ODD_VALUES, check_error, check_kept, same

PARITY = ((1, 1), (0, 1, 1, 0))


def kinds_of(frame):
    """[L5]: the kinds of which a frame is."""
    posts, seal = list(zip(frame[:-1:2], frame[1:-1:2])), frame[-1]
    found = []
    if all(cell == 0 for cell in frame):
        found.append("blank")
    if seal == 1 and all(post in ((1, 0), (0, 1)) for post in posts):
        found.append("whole")
    if all(cell == 1 for cell in frame):
        found.append("struck")
    if seal == 0 and any(frame[:-1]):
        found.append("torn")
    return found


def frames(tape):
    wide, cells = tape
    return [cells[at:at + 2 * wide + 1] for at in range(0, len(cells), 2 * wide + 1)]


def brute_frames(tape):
    """[L5]: the first frame that makes a tape of so many frames a wrong one."""
    ended = False
    for place, frame in enumerate(frames(tape)):
        found = kinds_of(frame)
        if not found or ended and found != ["blank"]:
            return ("frame", place)
        ended = ended or found[0] in ("blank", "torn")
    return None


def brute_records(tape):
    return tuple(
        int("".join(str(figure) for figure in frame[1:-1:2]), 2) for frame in frames(tape) if kinds_of(frame) == ["whole"])


def brute_writing(tape, record):
    """The writing of a record on a right tape that has a blank frame and no torn one."""
    wide = tape[0]
    place = [kinds_of(frame) for frame in frames(tape)].index(["blank"])
    figures = bin(record)[2:].zfill(wide)
    start = place * (2 * wide + 1)
    return tuple(start + 2 * at + (figure == "1") for at, figure in enumerate(figures)) + (start + 2 * wide,)


def brute_striking(tape):
    wide, cells = tape
    torn = [place for place, frame in enumerate(frames(tape)) if kinds_of(frame) == ["torn"]]
    return tuple(at for place in torn for at in range(place * (2 * wide + 1), (place + 1) * (2 * wide + 1)) if cells[at] == 0)


def right_tapes():
    """Right tapes of one frame to four, with each kind at each place where it may stand."""
    pick = random.Random(1)
    for wide in (1, 2, 3, 12):
        size = 2 * wide + 1
        for many in (0, 1, 2, 3, 4):
            for begun in range(many + 1):
                for torn in (False, True):
                    for _ in range(4):
                        rows = []
                        for _ in range(begun):
                            whole = sum((pick.choice([(0, 1), (1, 0)]) for _ in range(wide)), ()) + (1,)
                            rows.append(pick.choice([whole, (1,) * size]))
                        if torn and begun < many:
                            cells = [pick.randrange(2) for _ in range(size - 1)]
                            cells[pick.randrange(size - 1)] = 1
                            rows.append(tuple(cells) + (0,))
                        rows += [(0,) * size] * (many - len(rows))
                        yield wide, sum(rows, ())


TAPES = list(right_tapes())


class TapeError(unittest.TestCase):
    def test_right_tapes(self):
        for tape in TAPES:
            self.assertIsNone(tape_error(tape))

    def test_all_small_tapes(self):
        seen = set()
        for wide, many in ((1, 0), (1, 1), (1, 2), (1, 3), (2, 1), (2, 2), (3, 1)):
            for cells in itertools.product((0, 1), repeat=many * (2 * wide + 1)):
                found = tape_error((wide, cells))
                seen.add(found)
                self.assertEqual(found, brute_frames((wide, cells)))
        self.assertEqual(seen, {None, ("frame", 0), ("frame", 1), ("frame", 2)})

    def test_forms(self):
        for value in ODD_VALUES + [[2, ()], (2,), (2, (), ()), (2, [0] * 5), (2, None), (2, "00000"), (2, {}), ((), 2), (2, 5)]:
            self.assertEqual(tape_error(value), "form")
            check_kept(self, tape_error, value)
        for wide in (0, 13, -1, True, False, None, "1", (1,), [1], 10 ** 399):
            self.assertEqual(tape_error((wide, ())), "form")
            self.assertEqual(tape_error((wide, (7, 7))), "form")
        for wide in (1, 2, 11, 12):
            self.assertIsNone(tape_error((wide, ())))

    def test_cells(self):
        for cell in (True, False, 2, -1, None, "0", "1", (0,), [0], 10 ** 399, (), {}):
            for at in range(5):
                self.assertEqual(tape_error((2, (0,) * at + (cell,) + (0,) * (4 - at))), "cells")
            self.assertEqual(tape_error((1, (0, 0, 1) + (cell, 0, 0))), "cells")

    def test_numbers_of_cells(self):
        for wide in range(1, 13):
            size = 2 * wide + 1
            for many in range(1, 130):
                expected = None if many % size == 0 else "cells"
                self.assertEqual(tape_error((wide, (0,) * many)), expected)
        # 399 cells are 133 frames, 400 are 80 of another width, and further ones are too many.
        self.assertIsNone(tape_error((1, (0,) * 399)))
        self.assertIsNone(tape_error((2, (0,) * 400)))
        self.assertIsNone(tape_error((12, (0,) * 400)))
        for wide, many in ((1, 400), (1, 402), (2, 401), (2, 405), (12, 425), (2, 4000), (1, 3999)):
            self.assertEqual(tape_error((wide, (0,) * many)), "cells")

    def test_order_of_faults(self):
        self.assertEqual(tape_error((13, (2,))), "form")
        self.assertEqual(tape_error((1, (0, 0, 1, 0))), "cells")
        self.assertEqual(tape_error((1, (0, 0, 1, 0, 0, 2))), "cells")

    def test_two_torn_frames(self):
        self.assertIsNone(tape_error((1, (1, 0, 1, 1, 0, 0, 0, 0, 0))))
        self.assertEqual(tape_error((1, (1, 0, 0, 1, 0, 0, 0, 0, 0))), ("frame", 1))
        self.assertEqual(tape_error((1, (1, 0, 0, 0, 0, 0, 1, 0, 1))), ("frame", 2))
        self.assertEqual(tape_error((1, (0, 0, 0, 1, 1, 1))), ("frame", 1))
        self.assertEqual(tape_error((1, (1, 1, 1, 0, 0, 1))), ("frame", 1))
        self.assertEqual(tape_error((2, (1, 1, 1, 0, 1))), ("frame", 0))

    def test_by_name(self):
        self.assertIsNone(tape_error(value=(1, (0, 0, 0))))


class BlankTape(unittest.TestCase):
    def test_blank(self):
        for wide in range(1, 13):
            for many in range(400 // (2 * wide + 1) + 1):
                tape = blank_tape(wide, many)
                self.assertEqual(tape, (wide, (0,) * (many * (2 * wide + 1))))
                self.assertIsNone(tape_error(tape))
        self.assertEqual(blank_tape(many=1, wide=1), (1, (0, 0, 0)))


class Records(unittest.TestCase):
    def test_by_the_definition(self):
        seen = set()
        for tape in TAPES:
            found = whole_records(tape)
            seen.add(len(found))
            self.assertTrue(same(found, brute_records(tape)))
        self.assertEqual(seen, {0, 1, 2, 3, 4})

    def test_figures(self):
        self.assertEqual(whole_records((3, (0, 1, 1, 0, 1, 0, 1, 1, 0, 1, 0, 0, 1, 1))), (4, 1))
        for wide in (1, 2, 11, 12):
            for record in (0, 1, 2 ** wide - 1, 2 ** (wide - 1)):
                tape = raised(blank_tape(wide, 1), writing(blank_tape(wide, 1), record))
                self.assertEqual(whole_records(tape), (record,))

    def test_by_name_and_kept(self):
        self.assertEqual(whole_records(tape=(1, (0, 1, 1))), (1,))
        check_kept(self, whole_records, TAPES[40])


class Writing(unittest.TestCase):
    def test_by_the_definition(self):
        pick, seen = random.Random(2), [0, 0, 0]
        for tape in TAPES:
            found = [kinds_of(frame) for frame in frames(tape)]
            for record in {0, 1, 2 ** tape[0] - 1, pick.randrange(2 ** tape[0])}:
                if ["torn"] in found:
                    seen[0] += 1
                    check_error(self, BadTape(found.index(["torn"])), writing, tape, record)
                elif ["blank"] not in found:
                    seen[1] += 1
                    check_error(self, Spent(), writing, tape, record)
                else:
                    seen[2] += 1
                    self.assertTrue(same(writing(tape, record), brute_writing(tape, record)))
        self.assertTrue(min(seen) > 20, seen)

    def test_all_records(self):
        for wide in (1, 2, 3, 8):
            tape = blank_tape(wide, 2)
            for record in range(2 ** wide):
                self.assertEqual(writing(tape, record), brute_writing(tape, record))

    def test_no_records(self):
        full, torn, blank = (1, (0, 1, 1)), (1, (0, 1, 0)), (1, (0, 0, 0))
        for tape in (full, torn, blank, (1, ())):
            for record in ODD_VALUES + [2, 3, -1, "0", (0,), [1]]:
                check_error(self, Unfit(), writing, tape, record)
                check_kept(self, writing, tape, record)
        for wide in range(1, 13):
            check_error(self, Unfit(), writing, blank_tape(wide, 1), 2 ** wide)
            self.assertEqual(len(writing(blank_tape(wide, 1), 2 ** wide - 1)), wide + 1)

    def test_torn_and_full(self):
        # Torn in the last frame: no frame is blank, either.
        check_error(self, BadTape(1), writing, (1, (0, 1, 1, 1, 1, 0)), 0)
        check_error(self, BadTape(0), writing, (1, (1, 0, 0, 0, 0, 0)), 0)
        check_error(self, Spent(), writing, (1, (0, 1, 1, 1, 1, 1)), 1)
        check_error(self, Spent(), writing, (1, ()), 1)

    def test_great_tapes(self):
        tape, records = blank_tape(1, 133), []
        for at in range(133):
            records.append(at * at % 5 % 2)
            tape = raised(tape, writing(tape, records[-1]))
        self.assertEqual(whole_records(tape), tuple(records))
        check_error(self, Spent(), writing, tape, 0)
        tape = blank_tape(12, 16)
        for at in range(16):
            tape = raised(tape, writing(tape, 4095 - 255 * at))
        self.assertEqual(whole_records(tape), tuple(4095 - 255 * at for at in range(16)))
        self.assertEqual((len(tape[1]), tape_error(tape)), (400, None))

    def test_by_name_and_kept(self):
        self.assertEqual(writing(tape=(1, (0, 0, 0)), record=1), (1, 2))
        self.assertEqual(writing(record=0, tape=(1, (0, 0, 0))), (0, 2))
        check_kept(self, writing, (2, (0,) * 10), 3)


class Striking(unittest.TestCase):
    def test_by_the_definition(self):
        seen = 0
        for tape in TAPES:
            found = striking(tape)
            seen += found != ()
            self.assertTrue(same(found, brute_striking(tape)))
        self.assertGreater(seen, 50)

    def test_by_name_and_kept(self):
        self.assertEqual(striking(tape=(1, (0, 0, 0, 0, 0, 0))), ())
        self.assertEqual(striking(tape=(1, (1, 1, 1, 0, 1, 0))), (3, 5))
        check_kept(self, striking, (1, (1, 0, 0)))


class Raised(unittest.TestCase):
    def test_cells(self):
        pick = random.Random(3)
        for wide, cells in TAPES:
            places = [at for at, cell in enumerate(cells) if cell == 0 and pick.random() < 0.5]
            pick.shuffle(places)
            expected = (wide, tuple(1 if at in places else cell for at, cell in enumerate(cells)))
            self.assertTrue(same(raised((wide, cells), tuple(places)), expected))
            self.assertEqual(raised((wide, cells), ()), (wide, cells))

    def test_by_name_and_kept(self):
        self.assertEqual(raised(tape=(1, (0, 0, 0)), places=(2, 0)), (1, (1, 0, 1)))
        check_kept(self, raised, (1, (0, 0, 0)), (1,))


class WhatHolds(unittest.TestCase):
    """[L7]."""

    def test_writings_cut(self):
        pick = random.Random(4)
        for tape in TAPES:
            found = [kinds_of(frame) for frame in frames(tape)]
            if ["torn"] in found or ["blank"] not in found:
                continue
            record, before = pick.randrange(2 ** tape[0]), whole_records(tape)
            row = writing(tape, record)
            self.assertEqual(len(set(row)), len(row))
            for many in range(len(row) + 1):
                cut = raised(tape, row[:many])
                self.assertIsNone(tape_error(cut))
                self.assertEqual(whole_records(cut), before + (record,) * (many == len(row)))

    def test_strikings_cut(self):
        for tape in TAPES:
            row, before = striking(tape), whole_records(tape)
            for many in range(len(row) + 1):
                cut = raised(tape, row[:many])
                self.assertIsNone(tape_error(cut))
                self.assertEqual(whole_records(cut), before)
                self.assertEqual(striking(cut), row[many:])

    def test_shelves_behind_tapes(self):
        # Each edit that can be done is written on the tape first, and that is cut off now and then.
        pick = random.Random(5)
        for code in [PARITY] + list(reference.small_codes())[::25]:
            values = sorted(reference.values(code), key=reference.order_key)
            names = ("ann", "bo", "cy")[:pick.randrange(1, 4)]
            tape, shelf, model = blank_tape(5, 30), Shelf(code, names, 2), Shelf(code, names, 2)
            for _ in range(20):
                name, value = pick.choice(names), pick.choice(values)
                try:
                    model.edit(name, value)
                except Spent:
                    continue
                row = writing(tape, record_of(code, names, name, value))
                cut = pick.randrange(len(row) + 1) if pick.random() < 0.3 else len(row)
                tape = raised(tape, row[:cut])
                if cut == len(row):
                    shelf = model
                model = shelf.copy()
                found = shelf_behind(code, names, 2, whole_records(tape))
                self.assertEqual(
                    [found.states(), found.left(), found.spare()], [shelf.states(), shelf.left(), shelf.spare()])
                tape = raised(tape, striking(tape))
                self.assertIsNone(tape_error(tape))


if __name__ == "__main__":
    unittest.main()
