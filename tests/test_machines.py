"""Tests of faremachines.machines: machines, ways and fares ([1.3] to [1.5])."""

import itertools
import unittest

from faremachines import machines
from faremachines.errors import NotAllowed
from faremachines.machines import (
    best_way,
    check_machine,
    count_ways,
    fare_by,
    fare_of,
    fares_behind,
    fares_from,
)
from tests.samples import COUNTER, HALF_USEFUL, NONE, PLAIN, SINGLE, STUCK, SWAPPING
from tests.samples import ahead, behind, least, logs_up_to, random_machines, ways_of

LOGS_THAT_ARE_NONE = (("c",), ("a", "c"), ("a",) * 401, ("",), ("A",), ("a b",))


def chain(size, fare):
    """Return a machine of so many states, in which each one leads to the next one, and to itself."""
    rows = []
    for state in range(size):
        steps = sorted({state: fare, (state + 1) % size: fare}.items())
        rows.append((tuple(steps), ()))
    return ("a", "b"), (fare,) * size, tuple(rows), (fare,) * size


class CheckMachineTest(unittest.TestCase):
    def test_constants(self):
        self.assertEqual((machines.MAX_STATES, machines.MAX_FARE, machines.NONE), (8, 99, -1))

    def test_machines(self):
        for machine in (PLAIN, SINGLE, COUNTER, SWAPPING, STUCK, HALF_USEFUL):
            self.assertIsNone(check_machine(machine))
        for machine in random_machines(1, 40, states=8, letters=4):
            self.assertIsNone(check_machine(machine))

    def test_edges_of_size_and_fares(self):
        for size, fare in itertools.product((1, 2, 8), (0, 99)):
            self.assertIsNone(check_machine(chain(size, fare)))
        self.assertIsNone(check_machine((("a",), (NONE,), (((),),), (NONE,))))
        self.assertIsNone(check_machine((("a",), (NONE,) * 8, (((),),) * 8, (NONE,) * 8)))

    def assert_spoilt(self, machine):
        with self.assertRaises(NotAllowed, msg=machine):
            check_machine(machine)

    def test_spoilt_letters(self):
        for letters in ((), ("a", "a"), ("a", "B"), ("a", "none"), ("a", ""), ("a", "abcdefghi")):
            self.assert_spoilt((letters,) + PLAIN[1:])
        self.assert_spoilt((("a", "b", "c", "d", "e"), (0,), (((),) * 5,), (0,)))

    def test_too_few_or_too_many_states(self):
        self.assert_spoilt((("a",), (), (), ()))
        self.assert_spoilt(chain(9, 1))

    def test_spoilt_first_and_last_fares(self):
        letters, firsts, moves, lasts = PLAIN
        for fare in (100, -2, 1000, -100):
            self.assert_spoilt((letters, (fare, 2), moves, lasts))
            self.assert_spoilt((letters, (0, fare), moves, lasts))
            self.assert_spoilt((letters, firsts, moves, (fare, 4)))
            self.assert_spoilt((letters, firsts, moves, (NONE, fare)))

    def test_too_few_or_too_many_fares(self):
        letters, firsts, moves, lasts = PLAIN
        for fares in ((), (0,), (0, 1, 2)):
            self.assert_spoilt((letters, fares, moves, lasts))
            self.assert_spoilt((letters, firsts, moves, fares))

    def test_spoilt_moves(self):
        letters, firsts, moves, lasts = PLAIN
        rows = [
            ((0, NONE),),
            ((0, 100),),
            ((1, -2),),
            ((2, 1),),
            ((-1, 1),),
            ((0, 1), (0, 1)),
            ((0, 1), (0, 2)),
            ((1, 1), (0, 1)),
            ((0, 1), (1, 1), (1, 1)),
            ((0, 1), (1, 1), (2, 1)),
        ]
        for row in rows:
            self.assert_spoilt((letters, firsts, ((row, ()), moves[1]), lasts))
            self.assert_spoilt((letters, firsts, (moves[0], ((), row)), lasts))

    def test_too_few_or_too_many_rows(self):
        letters, firsts, moves, lasts = PLAIN
        for rows in ((), moves[:1], moves + moves[:1]):
            self.assert_spoilt((letters, firsts, rows, lasts))
        for rows in ((), ((),), ((), (), ())):
            self.assert_spoilt((letters, firsts, (rows, moves[1]), lasts))
            self.assert_spoilt((letters, firsts, (moves[0], rows), lasts))


class FaresTest(unittest.TestCase):
    def test_the_examples(self):
        log = ("a", "b", "a")
        answers = fares_behind(PLAIN, log), fares_from(PLAIN, log), fare_of(PLAIN, log)
        self.assertEqual(answers, ((6, 5), (9, 11), 9))
        answers = best_way(PLAIN, log), fare_by(PLAIN, log, (1, 1, 1, 1)), count_ways(PLAIN, log)
        self.assertEqual(answers, ((0, 0, 1, 1), 13, 2))

    def test_against_all_rows(self):
        for machine in random_machines(2, 60) + [PLAIN, STUCK, HALF_USEFUL, COUNTER]:
            for log in logs_up_to(machine[0], 3):
                ways = ways_of(machine, log)
                self.assertEqual(fares_behind(machine, log), behind(machine, log))
                self.assertEqual(fares_from(machine, log), ahead(machine, log))
                self.assertEqual(fare_of(machine, log), least([fare for fare, way in ways]))
                self.assertEqual(best_way(machine, log), ways[0][1] if ways else None)
                self.assertEqual(count_ways(machine, log), len(ways))

    def test_fare_by_against_all_rows(self):
        for machine in random_machines(3, 30):
            size = len(machine[1])
            for log in logs_up_to(machine[0], 2):
                fares = {way: fare for fare, way in ways_of(machine, log)}
                for way in itertools.product(range(-1, size + 1), repeat=len(log) + 1):
                    if way in fares:
                        self.assertEqual(fare_by(machine, log, way), fares[way])
                    else:
                        with self.assertRaises(NotAllowed):
                            fare_by(machine, log, way)

    def test_fares_add_up_at_each_place(self):
        for machine in random_machines(4, 40, states=5):
            log = (machine[0] * 6)[:6]
            for at in range(len(log) + 1):
                pairs = zip(fares_behind(machine, log[:at]), fares_from(machine, log[at:]))
                sums = [before + rest for before, rest in pairs if NONE not in (before, rest)]
                self.assertEqual(least(sums), fare_of(machine, log))

    def test_the_empty_log(self):
        self.assertEqual(fares_behind(PLAIN, ()), (0, 2))
        self.assertEqual(fares_from(PLAIN, ()), (-1, 4))
        self.assertEqual((fare_of(PLAIN, ()), best_way(PLAIN, ()), count_ways(PLAIN, ())), (6, (1,), 1))
        self.assertEqual(fare_by(PLAIN, (), (1,)), 6)
        self.assertEqual((fare_of(STUCK, ()), best_way(STUCK, ()), count_ways(STUCK, ())), (NONE, None, 0))

    def test_logs_that_cannot_be_gone(self):
        machine = (("a", "b"), (0, 5), ((((1, 0),), ()), ((), ((0, 3),))), (NONE, 0))
        self.assertEqual(fares_behind(machine, ("a", "a")), (NONE, NONE))
        self.assertEqual(fares_from(machine, ("a", "a")), (NONE, NONE))
        for log in (("a", "a"), ("b",), ("b", "b", "a")):
            self.assertEqual(fare_of(machine, log), NONE)
            self.assertIsNone(best_way(machine, log))
            self.assertEqual(count_ways(machine, log), 0)
        self.assertEqual(fare_of(machine, ("a", "b", "a")), 3)

    def test_logs_of_four_hundred_letters(self):
        log = ("a",) * 400
        self.assertEqual(fare_of(chain(8, 99), log), 402 * 99)
        self.assertEqual(best_way(chain(8, 99), log), (0,) * 401)
        self.assertEqual(count_ways(chain(8, 99), log), 8 * 2 ** 400)
        self.assertEqual(fare_by(chain(8, 99), log, (0,) * 401), 402 * 99)
        self.assertEqual(fares_behind(chain(3, 1), log), (401, 401, 401))
        self.assertEqual(fares_from(chain(3, 1), log), (401, 401, 401))

    def test_the_first_one_of_the_best_ways(self):
        machine = (("a",), (0, 0, 0), ((((1, 1), (2, 0)),), (((0, 0), (2, 0)),), (((1, 0),),)), (0, 0, 0))
        self.assertEqual(best_way(machine, ()), (0,))
        self.assertEqual(best_way(machine, ("a",)), (0, 2))
        self.assertEqual(best_way(machine, ("a", "a")), (0, 2, 1))
        self.assertEqual(best_way(machine, ("a", "a", "a")), (0, 2, 1, 0))

    def test_rows_of_states_that_are_no_ways(self):
        log = ("a", "b", "a")
        rows = [(), (0,), (0, 0, 1), (0, 0, 1, 1, 1), (0, 0, 0, 0), (1, 1, 0, 0), (0, 0, 1, 2), (-1, 0, 1, 1)]
        for way in rows + [(0, -2, 1, 1), (0, 0, 1, -1), (0, 0, 1, 0), (8, 8, 8, 8)]:
            with self.assertRaises(NotAllowed, msg=way):
                fare_by(PLAIN, log, way)
        for way in ((), (0,), (2,), (-1,), (1, 1)):
            with self.assertRaises(NotAllowed, msg=way):
                fare_by(PLAIN, (), way)
        letters, firsts, moves, lasts = PLAIN
        with self.assertRaises(NotAllowed):
            fare_by((letters, (NONE, 2), moves, lasts), log, (0, 0, 1, 1))

    def test_logs_that_are_none(self):
        for log in LOGS_THAT_ARE_NONE:
            for function in (fares_behind, fares_from, fare_of, best_way, count_ways):
                with self.assertRaises(NotAllowed, msg=(function, log)):
                    function(PLAIN, log)
            with self.assertRaises(NotAllowed):
                fare_by(PLAIN, log, (0,) * (len(log) + 1))

    def test_kinds_of_results(self):
        for machine in (PLAIN, STUCK):
            for log in ((), ("a",)):
                self.assertIs(type(fares_behind(machine, log)), tuple)
                self.assertIs(type(fares_from(machine, log)), tuple)
                self.assertIs(type(fare_of(machine, log)), int)
                self.assertIs(type(count_ways(machine, log)), int)
        self.assertIs(type(best_way(PLAIN, ())), tuple)
