"""Tests of faremachines.closer: one who closes and one who walks, true numbers and their judges ([11.5], [11.6])."""

import random
import unittest

from faremachines.closer import MAX_RESERVE, fares_by_reserve, forced_fare, judge_above, judge_below, true_numbers
from faremachines.errors import NotAllowed
from faremachines.machines import fare_of
from tests import closed
from tests.closed import FORK
from tests.samples import HALF_USEFUL, NONE, PLAIN, ROWS, STUCK, random_machine, variants

NUMBERS = [[[int]]]
CASES = closed.machines_and_logs(830, 120, 3, 2, 3)


def changed_numbers(numbers):
    """Return a list of numbers with an integer raised or lowered, NONE put in, or a part left out or twice."""
    found = variants(NUMBERS, numbers)
    for i, layer in enumerate(numbers):
        for j, row in enumerate(layer):
            for k in range(len(row)):
                for put in (NONE, 0, 50, -2):
                    changed = row[:k] + (put,) + row[k + 1:]
                    found.append(numbers[:i] + (layer[:j] + (changed,) + layer[j + 1:],) + numbers[i + 1:])
    return found


class ForcedTest(unittest.TestCase):
    def test_the_examples(self):
        self.assertEqual(fares_by_reserve(FORK, ("a", "a"), 2), [0, NONE, NONE])
        self.assertEqual(true_numbers(FORK, ("a",), 0), (((NONE, 0, 3, NONE),), ((NONE, NONE, NONE, 0),)))

    def test_against_all_moves_of_both_sides(self):
        found = {"more": 0, "none": 0, "same": 0}
        for machine, log in CASES:
            for reserve in range(4):
                value = closed.forced(machine, log, reserve)
                self.assertEqual(forced_fare(machine, log, reserve), value, (machine, log, reserve))
                fare = fare_of(machine, log)
                found["same" if value == fare else "none" if value == NONE else "more"] += 1
                numbers = true_numbers(machine, log, reserve)
                for at in range(len(log) + 1):
                    for left in range(reserve + 1):
                        expected = [closed.value(machine, log[at:], left, state) for state in range(len(machine[1]))]
                        self.assertEqual(numbers[at][left], tuple(expected))
        self.assertGreater(min(found.values()), 30, found)

    def test_with_the_reserve_0_it_is_the_fare(self):
        source = random.Random(831)
        for machine, log in CASES:
            self.assertEqual(forced_fare(machine, log, 0), fare_of(machine, log))
        machine = random_machine(source, 8, 4, 0.7, 99)
        log = tuple(source.choices(machine[0], k=400))
        self.assertEqual(forced_fare(machine, log, 0), fare_of(machine, log))

    def test_with_more_never_less(self):
        source = random.Random(832)
        for _ in range(60):
            machine = random_machine(source, source.randrange(2, 9), 2, source.choice([0.4, 0.7, 1]), 99)
            log = tuple(source.choices(machine[0], k=source.choice([3, 10, 60])))
            fares = fares_by_reserve(machine, log, 5)
            self.assertEqual(len(fares), 6)
            sums = [10 ** 9 if fare == NONE else fare for fare in fares]
            self.assertEqual(sums, sorted(sums))
            for reserve in range(6):
                self.assertEqual(forced_fare(machine, log, reserve), fares[reserve])
                self.assertEqual(fares_by_reserve(machine, log, reserve), fares[:reserve + 1])

    def test_a_move_is_closed_at_one_letter_alone(self):
        # The walker can take the other one of both moves, each time that one of them is closed.
        two = (("a",), (0, NONE), ((((0, 1), (1, 4)),), (((0, 1), (1, 4)),)), (0, 0))
        for letters in range(6):
            fares = [letters + 3 * min(reserve, letters) for reserve in range(6)]
            self.assertEqual(fares_by_reserve(two, ("a",) * letters, 5), fares)

    def test_where_there_is_no_last_fare(self):
        self.assertEqual(fares_by_reserve(STUCK, ("a",), 3), [NONE] * 4)
        self.assertEqual(fares_by_reserve(FORK, (), 1), [NONE] * 2)
        self.assertEqual(fares_by_reserve(PLAIN, (), 5), [6] * 6)

    def test_what_is_not_allowed(self):
        self.assertEqual(MAX_RESERVE, 5)
        numbers = true_numbers(FORK, ("a", "a"), 0)
        for log, reserve in ((("a", "a"), -1), (("a", "a"), 6), (("b",), 0), (("a",) * 401, 0), (("b",), 9)):
            for function in (forced_fare, fares_by_reserve, true_numbers):
                with self.assertRaises(NotAllowed):
                    function(FORK, log, reserve)
            for function in (judge_above, judge_below):
                with self.assertRaises(NotAllowed):
                    function(FORK, log, reserve, 3, numbers)
        for c in (-2, -99):
            for function in (judge_above, judge_below):
                with self.assertRaises(NotAllowed):
                    function(FORK, ("a", "a"), 0, c, numbers)
                with self.assertRaises(NotAllowed):
                    function(FORK, ("a", "a"), 0, c, ())


class JudgeTest(unittest.TestCase):
    def test_true_numbers_are_taken_from_both_sides(self):
        for machine, log in CASES + [(FORK, ("a", "a")), (ROWS, ("a",) * 4), (HALF_USEFUL, ("a", "b"))]:
            for reserve in range(4):
                numbers = true_numbers(machine, log, reserve)
                value = forced_fare(machine, log, reserve)
                for c in range(-1, max(value, 0) + 4):
                    above = value != NONE and c >= value
                    below = value == NONE or NONE < c <= value
                    self.assertIs(judge_above(machine, log, reserve, c, numbers), above, (machine, log, reserve, c))
                    self.assertIs(judge_below(machine, log, reserve, c, numbers), below, (machine, log, reserve, c))
                    self.assertEqual(closed.is_above(machine, log, reserve, c, numbers), above)
                    self.assertEqual(closed.is_below(machine, log, reserve, c, numbers), below)

    def test_numbers_with_one_thing_changed(self):
        source = random.Random(833)
        judged = {"above": 0, "below": 0, "neither": 0}
        for machine, log in CASES:
            for reserve in (0, 1, 2):
                value = forced_fare(machine, log, reserve)
                numbers = true_numbers(machine, log, reserve)
                papers = changed_numbers(numbers)
                for changed in source.sample(papers, min(len(papers), 25)):
                    for c in sorted({NONE, value, max(value - 1, 0), value + 1, 0}):
                        above = closed.is_above(machine, log, reserve, c, changed)
                        below = closed.is_below(machine, log, reserve, c, changed)
                        self.assertIs(judge_above(machine, log, reserve, c, changed), above, (machine, log, reserve, c, changed))
                        self.assertIs(judge_below(machine, log, reserve, c, changed), below, (machine, log, reserve, c, changed))
                        judged["above" if above else "below" if below else "neither"] += 1
                        # No numbers are right from above for less than is forced, or from below for more.
                        self.assertFalse(above and (value == NONE or c < value))
                        self.assertFalse(below and value != NONE and (c == NONE or c > value))
        self.assertGreater(min(judged.values()), 300, judged)

    def test_the_examples(self):
        self.assertIs(judge_below(FORK, ("a", "a"), 1, NONE, true_numbers(FORK, ("a", "a"), 1)), True)
        self.assertIs(judge_above(FORK, ("a", "a"), 0, 0, true_numbers(FORK, ("a", "a"), 0)), True)
        self.assertIs(judge_above(FORK, ("a", "a"), 1, NONE, true_numbers(FORK, ("a", "a"), 1)), False)
        self.assertIs(judge_above(FORK, ("a", "a"), 0, NONE, true_numbers(FORK, ("a", "a"), 0)), False)
        self.assertIs(judge_below(FORK, ("a", "a"), 0, NONE, true_numbers(FORK, ("a", "a"), 0)), False)

    def test_numbers_that_have_another_form(self):
        for reserve in (0, 2):
            numbers = true_numbers(FORK, ("a", "a"), reserve)
            others = [(), numbers[:-1], numbers + numbers[-1:], numbers[::-1], ((),) * 3, (((),) * (reserve + 1),) * 3]
            others += [true_numbers(FORK, ("a", "a"), reserve + 1), tuple([layer[:-1] for layer in numbers])]
            others += [tuple([layer + layer[-1:] for layer in numbers]), tuple([tuple([row[:-1] for row in layer]) for layer in numbers])]
            others += [tuple([tuple([row + (NONE,) for row in layer]) for layer in numbers])]
            for other in others:
                for c in (NONE, 0, 4):
                    self.assertIs(judge_above(FORK, ("a", "a"), reserve, c, other), False)
                    self.assertIs(judge_below(FORK, ("a", "a"), reserve, c, other), False)

    def test_numbers_below_none(self):
        for other in (((-2, 0, 3, NONE),), ((NONE, 0, 3, -2),)):
            numbers = (other, ((NONE, NONE, NONE, 0),))
            self.assertIs(judge_above(FORK, ("a",), 0, 9, numbers), False)
            self.assertIs(judge_below(FORK, ("a",), 0, NONE, numbers), False)

    def test_bounds_that_are_not_tight(self):
        two = (("a",), (0, NONE), ((((0, 1), (1, 4)),), (((0, 1), (1, 4)),)), (0, 0))
        numbers = true_numbers(two, ("a",) * 3, 2)
        raised = tuple([tuple([tuple([told + 7 for told in row]) for row in layer]) for layer in numbers])
        self.assertEqual(forced_fare(two, ("a",) * 3, 2), 9)
        self.assertIs(judge_above(two, ("a",) * 3, 2, 16, raised), True)
        self.assertIs(judge_above(two, ("a",) * 3, 2, 15, raised), False)
        lowered = tuple([tuple([tuple([max(told - 5, 0) for told in row]) for row in layer]) for layer in numbers])
        self.assertIs(judge_below(two, ("a",) * 3, 2, 4, lowered), True)
        self.assertIs(judge_below(two, ("a",) * 3, 2, 5, lowered), False)

    def test_long_logs(self):
        source = random.Random(834)
        machine = random_machine(source, 8, 4, 0.8, 99)
        log = tuple(source.choices(machine[0], k=400))
        numbers = true_numbers(machine, log, 5)
        value = forced_fare(machine, log, 5)
        self.assertNotEqual(value, NONE)
        self.assertIs(judge_above(machine, log, 5, value, numbers), True)
        self.assertIs(judge_below(machine, log, 5, value, numbers), True)
        self.assertIs(judge_above(machine, log, 5, value - 1, numbers), False)
        self.assertIs(judge_below(machine, log, 5, value + 1, numbers), False)

    def test_lists_that_are_returned_and_changed(self):
        fares_by_reserve(FORK, ("a", "a"), 2).clear()
        self.assertEqual(fares_by_reserve(FORK, ("a", "a"), 2), [0, NONE, NONE])
