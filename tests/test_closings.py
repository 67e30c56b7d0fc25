"""Tests of faremachines.closings: moves, closings, and vital moves ([11.1])."""

import random
import unittest

from faremachines.closings import closed_machine, moves_of, vital_moves
from faremachines.errors import NotAllowed
from faremachines.machines import check_machine, fare_of
from tests import closed
from tests.closed import FORK
from tests.samples import COUNTER, HALF_USEFUL, NONE, PLAIN, ROWS, STUCK, random_machine, random_machines


class MovesTest(unittest.TestCase):
    def test_in_their_order(self):
        self.assertEqual(moves_of(FORK), [(0, "a", 1), (0, "a", 2), (1, "a", 3), (2, "a", 3)])
        self.assertEqual(moves_of(PLAIN), [(0, "a", 0), (0, "b", 1), (1, "a", 1), (1, "b", 0), (1, "b", 1)])
        # By the letters' indexes, not by the letters.
        other = (("b", "a"), (0,), ((((0, 1),), ((0, 2),)),), (0,))
        self.assertEqual(moves_of(other), [(0, "b", 0), (0, "a", 0)])
        self.assertEqual(moves_of((("a",), (0,), (((),),), (0,))), [])
        for machine in random_machines(800, 60, 4, 3):
            self.assertEqual(moves_of(machine), closed.moves(machine))


class ClosedTest(unittest.TestCase):
    def test_all_moves_but_these(self):
        self.assertEqual(closed_machine(FORK, ((0, "a", 1),))[2][0], (((2, 1),),))
        source = random.Random(801)
        for machine in random_machines(802, 60, 4, 3):
            moves = moves_of(machine)
            for many in range(min(4, len(moves)) + 1):
                closings = tuple([moves[at] for at in sorted(source.sample(range(len(moves)), many))])
                other = closed_machine(machine, closings)
                self.assertIsNone(check_machine(other))
                self.assertEqual(other, closed.closed(machine, closings))
                self.assertEqual(moves_of(other), [move for move in moves if move not in closings])

    def test_closings_of_no_moves_and_of_all(self):
        for machine in (FORK, PLAIN, STUCK, HALF_USEFUL):
            self.assertEqual(closed_machine(machine, ()), machine)
            bare = closed_machine(machine, tuple(moves_of(machine)))
            self.assertEqual(bare, machine[:2] + ((((),) * len(machine[0]),) * len(machine[1]),) + machine[3:])

    def test_what_is_no_closings(self):
        first, second, third = (0, "a", 1), (0, "a", 2), (1, "a", 3)
        for closings in (
            (second, first), (third, first), (first, first), (first, third, second), (first, second, first), (first, second, second),
            ((0, "a", 3),), ((0, "b", 1),), ((0, "", 1),), ((-1, "a", 3),), ((4, "a", 1),), ((0, "a", 4),), ((0, "a", -1),),
            (first, (1, "a", 2)), ((3, "a", 3),),
        ):
            with self.assertRaises(NotAllowed, msg=closings):
                closed_machine(FORK, closings)
        self.assertEqual(moves_of(closed_machine(FORK, (first, third))), [second, (2, "a", 3)])
        # The order is that of the letters' indexes.
        other = (("b", "a"), (0,), ((((0, 1),), ((0, 2),)),), (0,))
        self.assertEqual(moves_of(closed_machine(other, ((0, "b", 0), (0, "a", 0)))), [])
        with self.assertRaises(NotAllowed):
            closed_machine(other, ((0, "a", 0), (0, "b", 0)))


class VitalTest(unittest.TestCase):
    def test_the_example(self):
        self.assertEqual(vital_moves(FORK, ("a", "a")), [((0, "a", 1), 4), ((1, "a", 3), 4)])

    def test_against_each_move_closed(self):
        found = {"other": 0, "none": 0, "not": 0}
        for machine, log in closed.machines_and_logs(803, 200, 3, 2, 5):
            fare = closed.fare(machine, log)
            expected = []
            for move in closed.moves(machine):
                other = closed.fare(closed.closed(machine, (move,)), log)
                if fare != NONE and other != fare:
                    expected.append((move, other))
                found["none" if fare != NONE and other == NONE else "other" if fare != other else "not"] += 1
            self.assertEqual(vital_moves(machine, log), expected, (machine, log))
        self.assertGreater(min(found.values()), 20, found)

    def test_logs_that_cannot_be_gone(self):
        for machine, log in ((STUCK, ()), (STUCK, ("a", "a")), (FORK, ()), (FORK, ("a",)), (FORK, ("a",) * 3), (ROWS, ())):
            self.assertEqual(vital_moves(machine, log), [])

    def test_the_empty_log_has_none(self):
        for machine in (PLAIN, COUNTER, HALF_USEFUL):
            self.assertEqual(vital_moves(machine, ()), [])

    def test_a_move_that_comes_again(self):
        once = (("a",), (0,), ((((0, 3),),),), (0,))
        self.assertEqual(vital_moves(once, ("a",) * 5), [((0, "a", 0), NONE)])
        # A log of two letters goes around by state 0, or by state 1.
        for log in (("a",), ("a", "a"), ("a",) * 9):
            self.assertEqual(vital_moves(ROWS, log), [((0, "a", 1), NONE)])

    def test_long_logs(self):
        source = random.Random(804)
        machine = random_machine(source, 8, 4, 0.6, 99)
        log = tuple(source.choices(machine[0], k=400))
        fare = fare_of(machine, log)
        found = vital_moves(machine, log)
        self.assertEqual(sorted(found, key=lambda row: moves_of(machine).index(row[0])), found)
        for move, other in found:
            self.assertTrue(other == NONE or other > fare)
            self.assertEqual(fare_of(closed_machine(machine, (move,)), log), other)

    def test_letters_that_are_none(self):
        for log in (("b",), ("a", ""), ("a",) * 401):
            with self.assertRaises(NotAllowed):
                vital_moves(FORK, log)

    def test_lists_that_are_returned_and_changed(self):
        moves_of(FORK).clear()
        vital_moves(FORK, ("a", "a")).clear()
        self.assertEqual((len(moves_of(FORK)), len(vital_moves(FORK, ("a", "a")))), (4, 2))
