"""Tests of faremachines.made ([5.5])."""

import random
import unittest

from faremachines.errors import TooLarge
from faremachines.machines import check_machine, either, fare_of, turned
from faremachines.made import as_machine, made
from faremachines.rounds import rounds
from faremachines.singles import check_single, least_single, single_fare
from tests.samples import COUNTER, FORK, HALF_USEFUL, NONE, PLAIN, STUCK, SWAPPING, answer_of, behind, cost_of
from tests.samples import known_fare, logs_up_to, random_machine, random_machines, random_singles, useful_states

EMPTY = (("a", "b"), NONE, (), ())


def falling(offset):
    """Return a machine whose offsets fall by 1 with each letter, from one down to 0."""
    return (("a",), (0, offset), ((((0, 1),),), (((0, 0), (1, 0)),)), (0, 0))


def offsets(machine, logs):
    """Return the set of the offsets behind some logs, from the definition."""
    good = useful_states(machine)
    found = set()
    for log in logs:
        # All states of the ways to a useful state are met, and lead on to it: they are useful, too.
        fares = [fare if state in good else NONE for state, fare in enumerate(behind(machine, log))]
        known = [fare for fare in fares if fare != NONE]
        if known:
            found.add(tuple([NONE if fare == NONE else fare - min(known) for fare in fares]))
    return found


class MadeTest(unittest.TestCase):
    def test_the_examples(self):
        self.assertEqual(made(SWAPPING), (("a",), 0, (((0, 2),),), (0,)))
        with self.assertRaises(TooLarge):
            made(COUNTER)

    def test_it_costs_the_same(self):
        found = {"single": 0, "TooLarge": 0}
        sizes = set()
        for machine in random_machines(240, 300) + [FORK, HALF_USEFUL, STUCK, PLAIN]:
            single = answer_of(made, machine)
            if single == "TooLarge":
                # If the rounds are alike, finitely many offsets are met: here never more than 60.
                self.assertEqual(rounds(machine)[0], "drift", machine)
                found["TooLarge"] += 1
                continue
            found["single"] += 1
            sizes.add(len(single[2]))
            self.assertEqual(least_single(single), single)
            for log in logs_up_to(machine[0], 4):
                self.assertEqual(cost_of(single, log), known_fare(machine, log), (machine, log))
        self.assertGreater(min(found.values()), 5, found)
        self.assertGreater(len(sizes), 5)

    def test_no_log_can_be_gone(self):
        for machine in (STUCK, (("a", "b"), (NONE,), (((), ()),), (0,)), (("a",), (0,), (((),),), (NONE,))):
            self.assertEqual(made(machine), (machine[0], NONE, (), ()))

    def test_just_60_offsets(self):
        for offset, many in ((0, 1), (3, 4), (58, 59), (59, 60)):
            machine = falling(offset)
            logs = [("a",) * length for length in range(7)]
            self.assertEqual(len(offsets(machine, logs)), min(many, 7))
            single = made(machine)
            for length in (0, 1, 58, 59, 60, 61, 200):
                self.assertEqual(single_fare(single, ("a",) * length), fare_of(machine, ("a",) * length))
        for offset in (60, 61, 99):
            with self.assertRaises(TooLarge):
                made(falling(offset))

    def test_logs_that_reach_nothing_make_no_offsets(self):
        for offset, large in ((59, False), (60, True)):
            _, firsts, moves, lasts = falling(offset)
            # By b nothing is reached, by c only a state that is not useful.
            moves = tuple([rows + ((), ((2, 0),)) for rows in moves]) + (((), (), ((2, 1),)),)
            machine = (("a", "b", "c"), firsts + (NONE,), moves, lasts + (NONE,))
            answer = answer_of(made, machine)
            self.assertEqual(answer == "TooLarge", large)
            self.assertTrue(large or len(answer[2]) == 60)

    def test_states_that_are_not_useful_make_no_offsets(self):
        # State 1 goes round for more, but leads to no end; state 2 is not met.
        machine = (("a",), (0, 0, NONE), ((((0, 1),),), (((1, 2),),), (((0, 0), (2, 9)),)), (0, NONE, 0))
        self.assertEqual(made(machine), (("a",), 0, (((0, 1),),), (0,)))
        self.assertEqual(len(offsets(machine, logs_up_to(("a",), 4))), 1)

    def test_single_machines_are_made_of_themselves(self):
        told = 0
        for single in random_singles(241, 150, 5, 2):
            machine = answer_of(as_machine, single)
            if machine == "TooLarge":
                continue
            check_machine(machine)
            self.assertEqual(made(machine), least_single(single))
            for log in logs_up_to(single[0], 3):
                self.assertEqual(known_fare(machine, log), cost_of(single, log))
            told += 1
        self.assertGreater(told, 100)

    def test_machines_told_otherwise(self):
        source = random.Random(242)
        told = 0
        for machine in random_machines(243, 150):
            single = answer_of(made, machine)
            many = len(machine[1])
            order = source.sample(range(many), many)
            places = [order.index(state) for state in range(many)]
            moves = [[tuple(sorted([(order[t], fare) for t, fare in row])) for row in machine[2][s]] for s in places]
            firsts, lasts = [tuple([fares[s] for s in places]) for fares in (machine[1], machine[3])]
            other = (machine[0], firsts, tuple([tuple(rows) for rows in moves]), lasts)
            check_machine(other)
            self.assertEqual(answer_of(made, other), single)
            # A state more that is not met, or that leads nowhere.
            for more in (NONE, 0):
                rows = (((many, 3),),) + tuple([()] * (len(machine[0]) - 1))
                lasts = machine[3] + (NONE if more == 0 else 0,)
                grown = (machine[0], machine[1] + (more,), machine[2] + (rows,), lasts)
                self.assertEqual(answer_of(made, grown), single)
            told += single != "TooLarge"
            if single != "TooLarge":
                self.assertEqual(made(either(machine, machine)), single)
        self.assertGreater(told, 50)

    def test_turned_machines(self):
        for machine in random_machines(244, 100):
            single = answer_of(made, turned(machine))
            if single != "TooLarge":
                for log in logs_up_to(machine[0], 3):
                    self.assertEqual(cost_of(single, log), known_fare(machine, log[::-1]))

    def test_large_machines(self):
        source = random.Random(245)
        for _ in range(40):
            machine = random_machine(source, 8, source.choice([1, 2, 4]), 0.5, 99)
            single = answer_of(made, machine)
            if single != "TooLarge":
                for log in [tuple(source.choices(machine[0], k=length)) for length in (3, 20, 300)]:
                    self.assertEqual(single_fare(single, log), fare_of(machine, log))


class AsMachineTest(unittest.TestCase):
    def test_no_states(self):
        self.assertEqual(as_machine(EMPTY), (("a", "b"), (NONE,), (((), ()),), (NONE,)))
        check_machine(as_machine(EMPTY))
        self.assertEqual(made(as_machine(EMPTY)), EMPTY)

    def test_states(self):
        for many, large in ((1, False), (7, False), (8, False), (9, True), (60, True)):
            rows = tuple([(((state + 1) % many, 5), (NONE, NONE)) for state in range(many)])
            single = (("a", "b"), 7, rows, (3,) + (NONE,) * (many - 1))
            check_single(single)
            if large:
                with self.assertRaises(TooLarge):
                    as_machine(single)
                continue
            moves = tuple([((((state + 1) % many, 5),), ()) for state in range(many)])
            self.assertEqual(as_machine(single), (("a", "b"), (7,) + (NONE,) * (many - 1), moves, single[3]))
            check_machine(as_machine(single))

    def test_fares(self):
        for at in range(3):
            for fare, large in ((99, False), (100, True), (1000000, True)):
                fares = [1, 1, 1]
                fares[at] = fare
                single = (("a",), fares[0], (((0, fares[1]),), ((NONE, NONE),)), (NONE, fares[2]))
                if large:
                    with self.assertRaises(TooLarge):
                        as_machine(single)
                else:
                    moves = ((((0, fares[1]),),), ((),))
                    self.assertEqual(as_machine(single)[1:], ((fares[0], NONE), moves, (NONE, fares[2])))
