"""Tests of faremachines.singles ([5.1], [5.2])."""

import random
import unittest

from faremachines.errors import NotAllowed
from faremachines.singles import check_single, least_single, single_fare
from tests.samples import NONE, cost_of, logs_up_to, random_single, random_singles, renumbered, state_behind, useful_in

EXAMPLE = (("a",), 1, (((1, 0),), ((2, 5),), ((1, 5),)), (-1, 2, 2))
EMPTY = (("a", "b"), NONE, (), ())
ONE = (("a",), 5, (((0, 7),),), (9,))


def ring(states, fare=1):
    """Return a single machine of one letter, in which each state leads to the next one, and only the last one ends."""
    rows = tuple([(((state + 1) % states, fare),) for state in range(states)])
    return ("a",), fare, rows, (NONE,) * (states - 1) + (fare,)


class CheckTest(unittest.TestCase):
    def allowed(self, single):
        try:
            return check_single(single) is None
        except NotAllowed:
            return False

    def test_sizes(self):
        for states, right in ((1, True), (59, True), (60, True), (61, False), (99, False)):
            self.assertEqual(self.allowed(ring(states)), right, states)
        self.assertTrue(self.allowed(EMPTY))

    def test_fares(self):
        for fare, right in ((0, True), (1000000, True), (1000001, False), (NONE, True), (-2, False), (10 ** 9, False)):
            self.assertEqual(self.allowed((("a",), 0, (((0, 0),),), (fare,))), right)
            self.assertEqual(self.allowed((("a",), fare, (((0, 0),),), (0,))), right and fare != NONE)
            self.assertEqual(self.allowed((("a",), 0, (((0, fare),),), (0,))), right and fare != NONE)

    def test_pairs(self):
        for pair, right in (
            ((0, 0), True), ((NONE, NONE), True), ((NONE, 0), False), ((0, NONE), False), ((1, 0), True), ((2, 0), False),
            ((-2, 0), False), ((NONE, -2), False), ((-2, NONE), False),
        ):
            self.assertEqual(self.allowed((("a",), 0, (((0, 0),), (pair,)), (0, 0))), right, pair)

    def test_first_fares_and_states(self):
        self.assertFalse(self.allowed((("a",), 0, (), ())))
        self.assertFalse(self.allowed((("a",), -2, (), ())))
        self.assertFalse(self.allowed((("a",), NONE, (((0, 0),),), (0,))))
        self.assertFalse(self.allowed((("a",), 0, (((0, 0),),), ())))
        self.assertFalse(self.allowed((("a",), 0, (((0, 0),),), (0, 0))))
        self.assertFalse(self.allowed((("a",), 0, (), (0,))))
        self.assertFalse(self.allowed((("a",), NONE, (), (NONE,))))

    def test_letters_and_rows(self):
        for letters in ((), ("a", "a"), ("A",), ("none",), ("a", "b", "c", "d", "e"), ("",)):
            self.assertFalse(self.allowed((letters, NONE, (), ())))
        for row in ((), ((0, 0),), ((0, 0),) * 3, ((0, 0), (0, -2)), ((1, 0), (0, 0)), ((NONE, 0), (0, 0))):
            self.assertFalse(self.allowed((("a", "b"), 0, (row,), (0,))))
        self.assertTrue(self.allowed((("a", "b"), 0, (((0, 0),) * 2,), (0,))))


class FareTest(unittest.TestCase):
    def test_the_example(self):
        for log, fare in (((), NONE), (("a",), 3), (("a", "a"), 8), (("a",) * 400, 1 + 399 * 5 + 2)):
            self.assertEqual(single_fare(EXAMPLE, log), fare)

    def test_no_states(self):
        for log in logs_up_to(("a", "b"), 2):
            self.assertEqual(single_fare(EMPTY, log), NONE)

    def test_great_fares(self):
        single = (("a",), 1000000, (((0, 1000000),),), (1000000,))
        self.assertEqual(single_fare(single, ("a",) * 400), 402 * 1000000)

    def test_against_the_moves(self):
        for single in random_singles(230, 100):
            for log in logs_up_to(single[0], 4):
                self.assertEqual(single_fare(single, log), cost_of(single, log))

    def test_logs_that_are_none(self):
        for single in (EXAMPLE, (("a",), NONE, (), ())):
            for log in (("b",), ("a", ""), ("a",) * 401, ("aa",), ("A",)):
                with self.assertRaises(NotAllowed):
                    single_fare(single, log)


class LeastTest(unittest.TestCase):
    def is_least(self, single):
        """Tell whether a single machine keeps what [5.2] says of the least one."""
        logs = logs_up_to(single[0], len(single[2]))
        met = []
        for log in logs:
            found = state_behind(single, log) if single[2] else None
            met += [found[0]] if found is not None and found[0] not in met else []
        if met != list(range(len(single[2]))):
            return False
        costs = {}
        for state in met:
            ends = [state_behind(single, log, state) for log in logs]
            ends = [None if end is None or single[3][end[0]] == NONE else end[1] + single[3][end[0]] for end in ends]
            if 0 not in ends:
                return False
            costs[tuple(ends)] = state
        return len(costs) == len(met)

    def test_the_example(self):
        self.assertEqual(least_single(EXAMPLE), (("a",), 3, (((1, 0),), ((1, 5),)), (-1, 0)))

    def test_against_the_definition(self):
        sizes = set()
        for single in random_singles(231, 400) + random_singles(232, 40, 4, 2):
            least = least_single(single)
            self.assertTrue(self.is_least(least), single)
            for log in logs_up_to(single[0], 5):
                self.assertEqual(cost_of(least, log), cost_of(single, log), (single, log))
            self.assertEqual(least_single(least), least)
            sizes.add((len(single[2]), len(least[2])))
        self.assertTrue({(3, 3), (3, 2), (3, 1), (3, 0), (0, 0), (1, 1), (4, 3)} <= sizes, sizes)

    def test_no_log_can_be_gone(self):
        none = (("a",), NONE, (), ())
        self.assertEqual(least_single(none), none)
        self.assertEqual(least_single((("a",), 5, (((0, 0),),), (NONE,))), none)
        # A state with a last fare that is not met.
        self.assertEqual(least_single((("a",), 5, (((0, 0),), ((1, 1),)), (NONE, 3))), none)

    def test_states_that_are_not_met_or_lead_to_no_end(self):
        rows = (((2, 4), (1, 0)), ((1, 0), (0, 0)), ((NONE, NONE), (3, 1)), ((3, 0), (3, 0)))
        single = (("a", "b"), 2, rows, (NONE, NONE, 1, NONE))
        # State 3 leads nowhere, state 1 leads to the end by state 0.
        least = (("a", "b"), 7, (((1, 0), (2, 0)), ((NONE, NONE), (NONE, NONE)), ((2, 0), (0, 0))), (NONE, 0, NONE))
        self.assertEqual(least_single(single), least)

    def test_equal_states(self):
        # Two states that lead to one another, just as one that leads to itself.
        self.assertEqual(least_single((("a",), 5, (((1, 7),), ((0, 7),)), (9, 9))), (("a",), 14, (((0, 7),),), (0,)))
        # They are the same only when what is certain has been paid before.
        single = (("a", "b"), 0, (((1, 5), (2, 1)), ((NONE, NONE),) * 2, ((NONE, NONE),) * 2), (NONE, 3, 7))
        least = (("a", "b"), 8, (((1, 0), (1, 0)), ((NONE, NONE),) * 2), (NONE, 0))
        self.assertEqual(least_single(single), least)
        single = single[:3] + ((NONE, 3, 8),)
        self.assertEqual(least_single(single)[2][0], ((1, 0), (1, 1)))

    def test_told_otherwise(self):
        source = random.Random(233)
        for single in random_singles(234, 80, 5, 3):
            if not single[2]:
                continue
            order = [0] + source.sample(range(1, len(single[2])), len(single[2]) - 1)
            self.assertEqual(least_single(renumbered(single, order)), least_single(single))
            # A state more that is not met.
            more = (single[0], single[1], single[2] + (single[2][0],), single[3] + (4,))
            self.assertEqual(least_single(more), least_single(single))

    def test_great_fares(self):
        rows = tuple([((state + 1, 1000000),) for state in range(59)] + [((NONE, NONE),)])
        single = (("a",), 1000000, rows, (NONE,) * 59 + (1000000,))
        check_single(single)
        least = least_single(single)
        self.assertEqual((least[1], len(least[2])), (61 * 10 ** 6, 60))
        self.assertEqual(set([fare for row in least[2] for _, fare in row]), {0, NONE})
        # A move that leads to what is sure to be dear costs more than each fare.
        single = (("a", "b"), 0, (((1, 1000000), (0, 0)), ((NONE, NONE),) * 2), (0, 1000000))
        self.assertEqual(least_single(single), (("a", "b"), 0, (((1, 2000000), (0, 0)), ((NONE, NONE),) * 2), (0, 0)))

    def test_the_largest_ones(self):
        single = ring(60, 3)
        least = least_single(single)
        self.assertEqual((least[1], len(least[2]), least[2][59], least[2][5]), (3 * 61, 60, ((0, 180),), ((6, 0),)))
        source = random.Random(235)
        for density in (0.5, 1):
            single = random_single(source, 60, 4, density, 1)
            least = least_single(single)
            self.assertEqual(least_single(least), least)
            self.assertLessEqual(len(least[2]), len(useful_in(single)))
