"""[N4] to [N7]: machines of what may come."""

import functools
import itertools
import random
import unittest

import reference
from onlyhigher.errors import BadMachine, NoState, Unfit
from onlyhigher.machines import machine_error, machine_ranks_hold, machine_state, machine_strengths
from onlyhigher.strengths import lot_strengths, strengths
from samples import ODD_VALUES, check_error, check_given, check_kept, same

TURN, GAP = ((1, 1), (0, 1, 1, 0)), ((1, 1), (0, 1, 1, None))
SWING, ONCE = (((1, 1),), ((0, 0),)), (((1, 1), (0, 0)), ((1, 1),))


def brute_ranks(code, machine):
    """[N5], by its first sentences: the writer can do so for many writes, or for ever."""
    names = reference.table(code)

    @functools.lru_cache(maxsize=None)
    def lasts(state, room, many):
        """Many values are written ahead of one that can't be, or the foe falls silent; many None is for ever."""
        if many == 0:
            return True
        asked = [(value, goal) for value, goal in machine[room] if value != names[state]]
        # A foe that is silent at once lets nothing come that can't be written.
        return all(
            any(lasts(other, goal, None if many is None else many - 1) for other in reference.ways(code, state, value))
            for value, goal in asked)

    def rank(state, room):
        if names[state] is None:
            return None
        if lasts(state, room, None):
            return "ever"
        return reference.greatest(lambda many: lasts(state, room, many))

    return tuple(tuple(rank(state, room) for state in names) for room in range(len(machine)))


def random_machine(code, pick, rooms):
    values = reference.values(code)
    return tuple(
        tuple((value, pick.randrange(rooms)) for value in pick.sample(values, pick.randrange(1, len(values) + 1)))
        for _ in range(rooms))


def cases():
    pick = random.Random(1)
    for code in list(reference.small_codes())[::3]:
        for rooms in pick.sample(range(1, 7), 2):
            yield code, random_machine(code, pick, rooms)


def weight(rank):
    return 10 ** 6 if rank == "ever" else rank


def fits(code, machine, row, step=1):
    """[N5], by its last sentence, in each room at every so manyth state."""
    states, names = reference.levels(code[0]), reference.table(code)
    found = [dict(zip(states, ranks)) for ranks in row]
    for room, ranks in zip(machine, found):
        for state in states[::step]:
            if names[state] is None:
                if ranks[state] is not None:
                    return False
                continue
            rows = [
                max([weight(found[goal][other]) for other in reference.ways(code, state, value)], default=-1)
                for value, goal in room if value != names[state]]
            expected = min([1 + best for best in rows], default=10 ** 6)
            if min(expected, 10 ** 6) != weight(ranks[state]):
                return False
    return True


def great_cases():
    pick = random.Random(2)
    for code in reference.GREAT[:2] + reference.GREAT[3:]:
        yield code, random_machine(code, pick, 6)
        yield code, random_machine(code, pick, 2)
    code = reference.GREAT[2]
    yield code, tuple(tuple((value, (room + 1) % 6) for value in range(room, 64, 6)) for room in range(6))
    yield code, (tuple((value, value % 6) for value in range(64)),) * 6


class MachineError(unittest.TestCase):
    def test_machines(self):
        for code, machine in cases():
            self.assertIsNone(machine_error(code, machine))
        for machine in (SWING, ONCE, (((0, 0),),), (((1, 0), (0, 0)),), (((1, 5),),) * 6):
            self.assertIsNone(machine_error(TURN, machine))

    def test_forms(self):
        for value in ODD_VALUES + [list(SWING), dict(enumerate(SWING)), (), (((1, 0),),) * 7, 0, "ab"]:
            if not isinstance(value, tuple) or not 1 <= len(value) <= 6:
                self.assertEqual(machine_error(TURN, value), "form")
            else:
                self.assertEqual(machine_error(TURN, value), ("room", 0))
            check_kept(self, machine_error, TURN, value)

    def test_rooms(self):
        for room in ODD_VALUES + [[(1, 0)], {1: 0}, ((1,),), ((1, 0, 0),), ([1, 0],), ((1, 0), [0, 0]), ((1, 0), 7), (1, 0), "ab",
                                  ((1, 0), ()), ((1, 0), None), ("ab",), 0]:
            for at in range(3):
                machine = (((1, 0),),) * at + (room,) + (((1, 0),),) * (2 - at)
                self.assertEqual(machine_error(TURN, machine), ("room", at))
        # All rooms are looked at ahead of the pairs.
        self.assertEqual(machine_error(TURN, (((9, 9),), ())), ("room", 1))

    def test_values(self):
        for value in ODD_VALUES + [2, "a", (0,), "0", [1]]:
            for at, k in itertools.product((0, 1), (0, 1)):
                room = ((1, 0),) * k + ((value, 0),)
                machine = (((1, 0), (0, 0)),) * at + (room,)
                self.assertEqual(machine_error(TURN, machine), ("value", at, k))
        self.assertEqual(machine_error(TURN, (((1, 0), (0, 0), (1, 0)),)), ("value", 0, 2))
        self.assertEqual(machine_error(TURN, (((1, 0), (1, 0)), ((2, 0),))), ("value", 0, 1))
        # The same value may stand in two rooms.
        self.assertIsNone(machine_error(TURN, (((1, 0),), ((1, 0),))))

    def test_goals(self):
        for goal in ODD_VALUES + [2, -2, "0", (0,), [0], 10 ** 9]:
            for at, k in itertools.product((0, 1), (0, 1)):
                room = ((1, 0),) * k + ((0, goal),)
                machine = ((((1, 0), (0, 0)), room) if at else (room, ((1, 0),)))
                self.assertEqual(machine_error(TURN, machine), ("goal", at, k))

    def test_the_first_fault(self):
        self.assertEqual(machine_error(TURN, (((2, 9),),)), ("value", 0, 0))
        self.assertEqual(machine_error(TURN, (((1, 9), (2, 0)),)), ("goal", 0, 0))
        self.assertEqual(machine_error(TURN, (((1, 0), (1, 9)),)), ("value", 0, 1))
        self.assertEqual(machine_error(TURN, (((1, 0),), ((1, 2),), ((2, 0),))), ("value", 2, 0))
        self.assertEqual(machine_error(TURN, (((1, 0),), ((1, 3),), ((2, 0),))), ("goal", 1, 0))

    def test_by_name(self):
        self.assertIsNone(machine_error(code=TURN, value=SWING))
        self.assertEqual(machine_error(value=(), code=TURN), "form")


class Strengths(unittest.TestCase):
    def test_by_the_definition(self):
        seen = set()
        for code, machine in cases():
            found = machine_strengths(code, machine)
            seen |= {rank for row in found for rank in row}
            self.assertTrue(same(found, brute_ranks(code, machine)), (code, machine))
            self.assertTrue(fits(code, machine, found))
            self.assertIs(machine_ranks_hold(code, machine, found), True)
        self.assertTrue({None, "ever", 0, 1, 2, 3} <= seen, seen)

    def test_ever(self):
        # In a room with one value the foe is silent where it is read; elsewhere it comes once and stays.
        self.assertEqual(machine_strengths(TURN, (((1, 0),),)), (("ever", "ever", "ever", 0),))
        self.assertEqual(machine_strengths(GAP, (((0, 0),),)), (("ever", 0, 0, None),))
        self.assertEqual(machine_strengths(((3,), (0, 1, 0, 1)), (((1, 1),), ((0, 2),), ((1, 2),))), (
            ("ever", "ever", 1, "ever"), ("ever", "ever", "ever", 0), ("ever", "ever", "ever", "ever")))

    def test_great_cards(self):
        for code, machine in great_cases():
            found = machine_strengths(code, machine)
            self.assertTrue(fits(code, machine, found, 37))
            self.assertIs(machine_ranks_hold(code, machine, found), True)

    def test_bad_machines(self):
        for machine, fault in (((), "form"), ([], "form"), (((),), ("room", 0)), ((((2, 0)),), ("room", 0)), ((((2, 0),),), ("value", 0, 0)),
                               ((((1, 1),),), ("goal", 0, 0)), (None, "form"), ((((1, True),),), ("goal", 0, 0))):
            check_error(self, BadMachine(fault), machine_strengths, TURN, machine)
            for value in (None, (), ((0,),)):
                check_error(self, BadMachine(fault), machine_ranks_hold, TURN, machine, value)
            check_error(self, BadMachine(fault), machine_state, TURN, machine, 0, (9, 9), 7)
            check_kept(self, machine_strengths, TURN, machine)
        for machine in ODD_VALUES:
            with self.assertRaises(BadMachine):
                machine_strengths(TURN, machine)

    def test_by_name_and_kept(self):
        self.assertEqual(machine_strengths(code=TURN, machine=SWING), ((2, "ever", "ever", 0), ("ever", 1, 1, "ever")))
        self.assertIs(machine_ranks_hold(value=(), machine=SWING, code=TURN), False)
        check_kept(self, machine_strengths, TURN, ONCE)


class RanksHold(unittest.TestCase):
    def test_changed_tables(self):
        for code, machine in list(cases())[::4]:
            right = machine_strengths(code, machine)
            for at, row in enumerate(right):
                for place, item in enumerate(row):
                    others = [None, "ever", "never", 0, 1, True, False, -1, (item,), "0"]
                    if isinstance(item, int):
                        others += [item + 1, item - 1, str(item)]
                    for other in others:
                        newer = right[:at] + (row[:place] + (other,) + row[place + 1:],) + right[at + 1:]
                        self.assertIs(machine_ranks_hold(code, machine, newer), same(other, item), (code, machine, newer))

    def test_other_kinds(self):
        right = machine_strengths(TURN, SWING)
        for value in ODD_VALUES + [list(right), right[:1], right + right[:1], (list(right[0]), right[1]), (right[0], None), right[::-1],
                                   (right[0][:-1], right[1]), (right[0] + (0,), right[1]), dict(enumerate(right)), right[0], (right,),
                                   ((2, "ever", "ever", False), right[1]), (right[0], ("ever", True, 1, "ever"))]:
            self.assertIs(machine_ranks_hold(TURN, SWING, value), False)
            check_kept(self, machine_ranks_hold, TURN, SWING, value)


class MachineState(unittest.TestCase):
    def test_by_the_definition(self):
        none = 0
        for code, machine in list(cases())[::2]:
            ranks = [dict(zip(reference.levels(code[0]), row)) for row in brute_ranks(code, machine)]
            for at, room in enumerate(machine):
                goals = dict(room)
                for state, name in reference.table(code).items():
                    for value in reference.values(code):
                        if name is None or name == value or value not in goals:
                            check_error(self, Unfit(), machine_state, code, machine, at, state, value)
                            continue
                        best = sorted(reference.ways(code, state, value), key=lambda other: (
                            -weight(ranks[goals[value]][other]), sum(other), other))
                        none += not best
                        self.assertTrue(same(machine_state(code, machine, at, state, value), best[0] if best else None))
        self.assertGreater(none, 50)

    def test_the_greatest_nearest_least(self):
        # Behind a 1 the room is the second one, where only a 2 comes: the farther state is the better one.
        code = ((2, 1), (0, 1, None, None, 1, 2))
        machine = (((1, 1), (2, 0)), ((2, 1),))
        self.assertEqual(machine_state(code, machine, 0, (0, 0), 1), (0, 1))
        self.assertEqual(machine_state(((3, 1), (0, 1, None, None, 1, None, 2, None)), machine, 0, (0, 0), 1), (2, 0))
        # By "ever" the state at which the foe is silent is better than one with a number.
        silent = ((1, 3), (0, 1, 0, 1, 2, None, None, None))
        self.assertEqual(machine_strengths(silent, (((1, 1),), ((0, 0),)))[1], ("ever", 2, "ever", 0, 0, None, None, None))
        self.assertEqual(machine_state(TURN, SWING, 0, (0, 0), 1), (0, 1))

    def test_no_states(self):
        for state in ODD_VALUES + [(2, 0), (-1, 0), (True, 0), [0, 0], (0,), "00", 0]:
            for value in (1, 0, None, "a"):
                check_given(self, NoState, state, machine_state, TURN, SWING, 0, state, value)
            check_kept(self, machine_state, TURN, SWING, 1, state, 0)

    def test_what_does_not_come(self):
        for value in ODD_VALUES + [0, 2, "a", (1,), [1], "1", True]:
            check_error(self, Unfit(), machine_state, TURN, SWING, 0, (0, 0), value)
            check_error(self, Unfit(), machine_state, TURN, SWING, 0, (0, 1), value)
            check_kept(self, machine_state, TURN, SWING, 0, (0, 0), value)
        for value in (0, 1, None):
            check_error(self, Unfit(), machine_state, GAP, ONCE, 0, (1, 1), value)
        self.assertIsNone(machine_state(GAP, ONCE, 0, (0, 1), 0))
        check_error(self, Unfit(), machine_state, GAP, ONCE, 1, (0, 1), 0)

    def test_by_name(self):
        self.assertEqual(machine_state(code=TURN, machine=SWING, room=1, state=(0, 1), value=0), (1, 1))
        self.assertEqual(machine_state(TURN, value=1, state=(0, 0), room=0, machine=ONCE), (0, 1))


class WhatHolds(unittest.TestCase):
    """[N7]."""

    def test_one_room(self):
        for code in list(reference.small_codes())[::3] + reference.GREAT:
            values = sorted(reference.values(code), key=reference.order_key)
            self.assertEqual(machine_strengths(code, (tuple((value, 0) for value in values),)), (strengths(code),))
            for lot in itertools.islice(itertools.chain(
                    itertools.combinations(values, 2), itertools.combinations(values, 3)), 5):
                self.assertEqual(machine_strengths(code, (tuple((value, 0) for value in lot),)), (lot_strengths(code, lot),))

    def test_a_pair_more(self):
        pick, less = random.Random(3), 0
        for code, machine in cases():
            before = machine_strengths(code, machine)
            for at, room in enumerate(machine):
                for value in reference.values(code):
                    if value not in dict(room):
                        more = machine[:at] + (room + ((value, pick.randrange(len(machine))),),) + machine[at + 1:]
                        behind = machine_strengths(code, more)
                        less += behind != before
                        for one, other in zip(sum(before, ()), sum(behind, ())):
                            self.assertTrue(one is None and other is None or weight(other) <= weight(one))
        self.assertGreater(less, 20)


if __name__ == "__main__":
    unittest.main()
