"""Tests of faremachines.rises: fares by uses, risen fares and their corners ([11.7])."""

import random
import unittest

from faremachines.closings import closed_machine, moves_of
from faremachines.errors import NotAllowed
from faremachines.machines import fare_of
from faremachines.rises import MAX_RISE, corners, fares_by_uses, risen_fare
from tests import closed
from tests.closed import FORK
from tests.samples import NONE, ROWS, STUCK, random_machine, step_fare

# A turn costs 1, and once around, which is four letters, costs 8.
ROUND = (
    ("a",), (0,) + (NONE,) * 4,
    ((((0, 1), (1, 8)),), (((2, 0),),), (((3, 0),),), (((0, 0), (4, 90)),), (((4, 0),),)), (0,) * 5,
)
CASES = closed.machines_and_logs(840, 200, 3, 2, 5)


def known_fare(fares, rise):
    """Return the fare and the uses with which a log is the cheapest with a rise."""
    told = [(fare + uses * rise, uses) for uses, fare in enumerate(fares) if fare != NONE]
    return min(told) if told else (NONE, NONE)


class UsesTest(unittest.TestCase):
    def test_against_all_ways(self):
        seen = {"none": 0, "all": 0, "some": 0, "several": 0}
        for machine, log in CASES:
            for move in moves_of(machine):
                fares = fares_by_uses(machine, log, move)
                self.assertEqual(fares, closed.by_uses(machine, log, move), (machine, log, move))
                uses = [at for at, fare in enumerate(fares) if fare != NONE]
                if uses:
                    seen["none" if uses == [0] else "all" if 0 not in uses else "some"] += 1
                    seen["several"] += uses[-1] > 1
                self.assertEqual(min([fare for fare in fares if fare != NONE], default=NONE), fare_of(machine, log))
        self.assertGreater(min(seen.values()), 20, seen)

    def test_the_example(self):
        self.assertEqual(fares_by_uses(FORK, ("a", "a"), (0, "a", 1)), [4, 0, NONE])
        self.assertEqual(fares_by_uses(FORK, ("a", "a"), (2, "a", 3)), [0, 4, NONE])
        self.assertEqual(fares_by_uses(ROWS, ("a",) * 3, (0, "a", 0)), [0, 0, 0, NONE])

    def test_by_other_letters_it_cannot_be_used(self):
        two = (("a", "b"), (0,), ((((0, 2),), ((0, 3),)),), (1,))
        self.assertEqual(fares_by_uses(two, ("a", "b", "a"), (0, "a", 0)), [NONE, NONE, 8, NONE])
        self.assertEqual(fares_by_uses(two, ("a", "b", "a"), (0, "b", 0)), [NONE, 8, NONE, NONE])
        self.assertEqual(fares_by_uses(two, ("a", "a"), (0, "b", 0)), [5, NONE, NONE])
        self.assertEqual(fares_by_uses(two, (), (0, "b", 0)), [1])

    def test_logs_that_cannot_be_gone(self):
        for log in ((), ("a",), ("a",) * 30):
            self.assertEqual(fares_by_uses(STUCK, log, (0, "a", 0)), [NONE] * (len(log) + 1))
            self.assertEqual(risen_fare(STUCK, log, (0, "a", 0), 5), NONE)
            self.assertEqual(corners(STUCK, log, (0, "a", 0)), [])

    def test_what_is_not_allowed(self):
        for log, move in (
            (("b",), (0, "a", 1)), (("a",) * 401, (0, "a", 1)), (("a", "a"), (0, "a", 3)), (("a", "a"), (0, "b", 1)),
            (("a", "a"), (4, "a", 1)), (("a", "a"), (-1, "a", 3)), (("a", "a"), (0, "a", -1)), (("a", "a"), (0, "", 1)),
            (("a", "a"), (3, "a", 3)), (("b",), (9, "a", 1)),
        ):
            for function, arguments in ((fares_by_uses, ()), (corners, ()), (risen_fare, (0,)), (risen_fare, (-1,))):
                with self.assertRaises(NotAllowed, msg=(log, move)):
                    function(FORK, log, move, *arguments)

    def test_long_logs(self):
        source = random.Random(841)
        machine = random_machine(source, 8, 2, 0.7, 99)
        log = tuple(source.choices(machine[0], k=400))
        move = moves_of(machine)[5]
        fares = fares_by_uses(machine, log, move)
        self.assertEqual(len(fares), 401)
        self.assertEqual(fares[0], fare_of(closed_machine(machine, (move,)), log))
        for rise in (0, 1, 7, 100, 10 ** 6):
            self.assertEqual(risen_fare(machine, log, move, rise), known_fare(fares, rise)[0])
        found = corners(machine, log, move)
        for (rise, uses), (later, fewer) in zip(found, found[1:]):
            self.assertTrue(rise < later and uses > fewer)
            self.assertEqual(known_fare(fares, later - 1)[1], uses)
            self.assertEqual(known_fare(fares, later)[1], fewer)

    def test_lists_that_are_returned_and_changed(self):
        fares_by_uses(FORK, ("a", "a"), (0, "a", 1)).clear()
        corners(FORK, ("a", "a"), (0, "a", 1)).clear()
        self.assertEqual(fares_by_uses(FORK, ("a", "a"), (0, "a", 1)), [4, 0, NONE])
        self.assertEqual(corners(FORK, ("a", "a"), (0, "a", 1)), [(0, 1), (4, 0)])


class RisenTest(unittest.TestCase):
    def test_by_the_fares_by_uses(self):
        for machine, log in CASES:
            for move in moves_of(machine):
                fares = closed.by_uses(machine, log, move)
                for rise in (0, 1, 2, 5, 40, 1000000):
                    self.assertEqual(risen_fare(machine, log, move, rise), known_fare(fares, rise)[0])

    def test_it_is_the_fare_of_the_machine_with_another_fare(self):
        for machine, log in CASES[:80]:
            for state, letter, after in moves_of(machine)[:4]:
                fare = step_fare(machine, state, letter, after)
                rows = [list(row) for row in machine[2][state]]
                at = machine[0].index(letter)
                rows[at] = tuple([(t, fare + 50 if t == after else other) for t, other in rows[at]])
                moves = machine[2][:state] + (tuple([tuple(row) for row in rows]),) + machine[2][state + 1:]
                other = (machine[0], machine[1], moves, machine[3])
                self.assertEqual(risen_fare(machine, log, (state, letter, after), 50), fare_of(other, log))

    def test_rises(self):
        self.assertEqual(MAX_RISE, 1000000)
        self.assertEqual([risen_fare(FORK, ("a", "a"), (0, "a", 1), rise) for rise in (0, 3, 4, 5, 1000000)], [0, 3, 4, 4, 4])
        lone = (("a",), (0,), ((((0, 3),),),), (1,))
        self.assertEqual(risen_fare(lone, ("a",) * 400, (0, "a", 0), 1000000), 400 * 1000003 + 1)
        for rise in (-1, 1000001, -1000000, 10 ** 9):
            with self.assertRaises(NotAllowed):
                risen_fare(FORK, ("a", "a"), (0, "a", 1), rise)
            with self.assertRaises(NotAllowed):
                risen_fare(STUCK, ("a",), (0, "a", 0), rise)


class CornerTest(unittest.TestCase):
    def test_against_the_risen_fares(self):
        many = {}
        for machine, log in CASES:
            for move in moves_of(machine):
                fares = closed.by_uses(machine, log, move)
                expected = []
                for rise in range(140):
                    uses = known_fare(fares, rise)[1]
                    if uses != NONE and (not expected or uses < expected[-1][1]):
                        expected.append((rise, uses))
                found = corners(machine, log, move)
                self.assertEqual(found, expected, (machine, log, move))
                many[len(found)] = many.get(len(found), 0) + 1
        self.assertGreater(min(many.get(size, 0) for size in (0, 1, 2)), 20, many)
        self.assertGreater(many.get(3, 0), 0, many)

    def test_one_by_one(self):
        self.assertEqual(corners(FORK, ("a", "a"), (0, "a", 1)), [(0, 1), (4, 0)])
        self.assertEqual(corners(FORK, ("a", "a"), (0, "a", 2)), [(0, 0)])
        # On all ways, and several times.
        lone = (("a",), (0,), ((((0, 3),),),), (1,))
        self.assertEqual(corners(lone, ("a",) * 7, (0, "a", 0)), [(0, 7)])
        self.assertEqual(corners(lone, (), (0, "a", 0)), [(0, 0)])
        # Once around costs 8 for four letters: it is worth it as soon as a turn costs 2.
        found = corners(ROUND, ("a",) * 6, (0, "a", 0))
        fares = closed.by_uses(ROUND, ("a",) * 6, (0, "a", 0))
        self.assertGreater(len(found), 1)
        expected = []
        for rise in range(120):
            uses = known_fare(fares, rise)[1]
            expected += [(rise, uses)] if not expected or uses < expected[-1][1] else []
        self.assertEqual(found, expected)

    def test_quotients_are_rounded_up(self):
        # Three uses for 0, none for 10: from 10 / 3 on, so from 4 on, it is not worth it.
        three = (
            ("a",), (0, 10), ((((0, 0),),), (((1, 0),),)), (0, 0),
        )
        self.assertEqual(fares_by_uses(three, ("a",) * 3, (0, "a", 0)), [10, NONE, NONE, 0])
        self.assertEqual(corners(three, ("a",) * 3, (0, "a", 0)), [(0, 3), (4, 0)])
        self.assertEqual(corners(three, ("a",) * 5, (0, "a", 0)), [(0, 5), (2, 0)])
        self.assertEqual(corners(three, ("a",) * 10, (0, "a", 0)), [(0, 10), (1, 0)])
        self.assertEqual(corners(three, ("a",) * 11, (0, "a", 0)), [(0, 11), (1, 0)])
        # With the same fares, the fewest uses count at the rise 0 already.
        even = (three[0], (0, 0)) + three[2:]
        self.assertEqual(corners(even, ("a",) * 4, (0, "a", 0)), [(0, 0)])
