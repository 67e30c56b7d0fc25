"""Tests of faremachines.slices ([3.5], [3.6])."""

import random
import unittest

from faremachines.errors import Missing, NotAllowed
from faremachines.machines import fare_of
from faremachines.slices import best_edit, cheapest_slice, fares_together
from tests.samples import COUNTER, FORK, HALF_USEFUL, NONE, PLAIN, SINGLE, STUCK, SWAPPING
from tests.samples import edited_log, known_fare, logs_up_to, possible_edits, random_machine, random_machines


def known_slice(machine, log, most):
    """Return the pair of a fare and the cheapest slice with at least so many letters, or None."""
    slices = [(first, last) for last in range(len(log) + 1) for first in range(last + 1) if last - first >= most]
    fares = [(known_fare(machine, log[first:last]), (first, last)) for first, last in slices]
    return min([pair for pair in fares if pair[0] != NONE], default=None)


def known_edit(machine, log):
    """Return the pair of a fare and the best edit, or None."""
    edits = [(fare_of(machine, edited_log(log, edit)), at, edit) for at, edit in enumerate(possible_edits(machine, log))]
    best = min([row for row in edits if row[0] != NONE], default=None)
    return None if best is None else (best[0], best[2])


class SliceTest(unittest.TestCase):
    def test_the_example(self):
        self.assertEqual(cheapest_slice(PLAIN, ("a", "b", "a"), 1), (5, (1, 2)))

    def test_against_all_slices(self):
        for machine in random_machines(60, 40, states=3):
            for log in logs_up_to(machine[0], 4):
                for most in range(len(log) + 2):
                    known = known_slice(machine, log, most)
                    if known is None:
                        with self.assertRaises(Missing):
                            cheapest_slice(machine, log, most)
                    else:
                        self.assertEqual(cheapest_slice(machine, log, most), known, (machine, log, most))

    def test_least_lengths(self):
        log = ("a", "b", "a")
        self.assertEqual(cheapest_slice(PLAIN, log, 0), (5, (1, 2)))
        self.assertEqual(cheapest_slice(PLAIN, log, 2), (6, (1, 3)))
        self.assertEqual(cheapest_slice(PLAIN, log, 3), (9, (0, 3)))
        for most in (4, 5, 400, 401, 10 ** 9):
            with self.assertRaises(Missing):
                cheapest_slice(PLAIN, log, most)
        for most in (-1, -2, -10 ** 9):
            with self.assertRaises(NotAllowed):
                cheapest_slice(PLAIN, log, most)

    def test_the_empty_log(self):
        self.assertEqual(cheapest_slice(PLAIN, (), 0), (6, (0, 0)))
        with self.assertRaises(Missing):
            cheapest_slice(PLAIN, (), 1)
        with self.assertRaises(NotAllowed):
            cheapest_slice(PLAIN, (), -1)
        with self.assertRaises(Missing):
            cheapest_slice(STUCK, (), 0)

    def test_slices_with_the_same_fare(self):
        self.assertEqual(cheapest_slice(HALF_USEFUL, ("b", "a", "a"), 0), (0, (0, 0)))
        free = (("a",), (0,), ((((0, 0),),),), (3,))
        for most in range(5):
            self.assertEqual(cheapest_slice(free, ("a",) * 4, most), (3, (0, most)))
        # The last letters are free, so that the shorter one of two slices from the same index is the first one.
        machine = (("a", "b"), (0, NONE), ((((1, 1),), ()), ((), ((1, 0),))), (NONE, 0))
        self.assertEqual(cheapest_slice(machine, ("b", "a", "b", "b", "a", "b"), 1), (1, (1, 2)))
        self.assertEqual(cheapest_slice(machine, ("b", "a", "b", "b", "a", "b"), 2), (1, (1, 3)))
        self.assertEqual(cheapest_slice(machine, ("b", "a", "b", "a", "b", "b"), 3), (1, (3, 6)))

    def test_more_letters_may_cost_less(self):
        machine = (("a",), (0, NONE, NONE), ((((1, 1),),), (((2, 1),),), ((),)), (9, 50, 0))
        self.assertEqual(cheapest_slice(machine, ("a", "a"), 0), (2, (0, 2)))
        self.assertEqual(cheapest_slice(machine, ("a", "a", "a"), 0), (2, (0, 2)))
        self.assertEqual(cheapest_slice(machine, ("a",), 0), (9, (0, 0)))

    def test_no_slice_can_be_gone(self):
        for most in range(3):
            with self.assertRaises(Missing):
                cheapest_slice(STUCK, ("a", "a"), most)
        # The empty slice can be gone, but none with a letter.
        machine = (("a",), (1,), (((),),), (2,))
        self.assertEqual(cheapest_slice(machine, ("a", "a"), 0), (3, (0, 0)))
        with self.assertRaises(Missing):
            cheapest_slice(machine, ("a", "a"), 1)

    def test_long_logs(self):
        machine = random_machine(random.Random(61), 8, 4, 0.5)
        log = machine[0] * 100
        fare, (first, last) = cheapest_slice(machine, log, 150)
        self.assertGreaterEqual(last - first, 150)
        self.assertEqual(fare, fare_of(machine, log[first:last]))
        self.assertLessEqual(fare, min([fare_of(machine, log[at:at + 150]) for at in range(251)]))
        self.assertEqual(cheapest_slice(machine, log, 400), (fare_of(machine, log), (0, 400)))

    def test_logs_that_are_none(self):
        for log in (("c",), ("a",) * 401):
            with self.assertRaises(NotAllowed):
                cheapest_slice(PLAIN, log, 0)
            with self.assertRaises(NotAllowed):
                cheapest_slice(PLAIN, log, 500)


class BestEditTest(unittest.TestCase):
    def test_the_example(self):
        self.assertEqual(best_edit(PLAIN, ("a", "b", "a")), (6, ("cut", 0)))

    def test_against_all_edits(self):
        for machine in random_machines(62, 60, states=3, letters=3):
            for log in logs_up_to(machine[0], 4):
                known = known_edit(machine, log)
                if known is None:
                    with self.assertRaises(Missing):
                        best_edit(machine, log)
                else:
                    self.assertEqual(best_edit(machine, log), known, (machine, log))

    def test_the_order_of_edits(self):
        free = (("a", "b"), (0,), ((((0, 0),), ((0, 0),)),), (0,))
        self.assertEqual(best_edit(free, ()), (0, ("put", 0, "a")))
        self.assertEqual(best_edit(free, ("b", "b")), (0, ("cut", 0)))
        # A change ahead of a put, the lesser index first, then the letter's index.
        machine = (("b", "a"), (0, NONE, NONE), (
            (((1, 0),), ((1, 0),)), (((2, 0),), ((2, 0),)), (((1, 9),), ((1, 9),))), (NONE, 9, 0))
        self.assertEqual(best_edit(machine, ("a", "a")), (0, ("change", 0, "b")))
        self.assertEqual(best_edit(machine, ("b", "b")), (0, ("change", 0, "b")))
        self.assertEqual(best_edit(machine, ("a",)), (0, ("put", 0, "b")))
        self.assertEqual(best_edit(machine, ("b", "a", "b")), (0, ("cut", 0)))
        dear = (("a", "b"), (0,), ((((0, 1),), ((0, 2),)),), (0,))
        self.assertEqual(best_edit(dear, ("a", "b", "b")), (3, ("cut", 1)))

    def test_an_edit_that_leaves_the_log_as_it_is(self):
        machine = (("a",), (1, NONE, NONE), ((((1, 1),),), (((2, 1),),), ((),)), (NONE, NONE, 1))
        self.assertEqual(best_edit(machine, ("a", "a")), (4, ("change", 0, "a")))
        self.assertEqual(best_edit(machine, ("a",)), (4, ("put", 0, "a")))
        self.assertEqual(best_edit(machine, ("a", "a", "a")), (4, ("cut", 0)))

    def test_no_edit_makes_a_log_that_can_be_gone(self):
        for log in logs_up_to(("a",), 3):
            with self.assertRaises(Missing):
                best_edit(STUCK, log)
        machine = (("a",), (0,), (((),),), (0,))
        self.assertEqual(best_edit(machine, ("a",)), (0, ("cut", 0)))
        for log in ((), ("a", "a")):
            with self.assertRaises(Missing):
                best_edit(machine, log)

    def test_a_log_of_four_hundred_letters(self):
        # Of a, b may be put between any two, so that a put alone would make the log one that can be gone.
        machine = (("a", "b"), (0, NONE), ((((0, 0),), ((1, 0),)), (((1, 0),), ())), (NONE, 0))
        self.assertEqual(best_edit(machine, ("a",) * 399), (0, ("change", 0, "b")))
        self.assertEqual(best_edit(machine, ("a",) * 400), (0, ("change", 0, "b")))
        put = (("a", "b"), (0, NONE), ((((0, 0),), ((1, 0),)), ((), ())), (NONE, 0))
        self.assertEqual(best_edit(put, ("a",) * 400), (0, ("change", 399, "b")))
        counted = (("a", "b"), (0, NONE), ((((0, 1),), ((1, 0),)), (((1, 99),), ())), (NONE, 0))
        self.assertEqual(best_edit(counted, ("a",) * 4), (3, ("change", 3, "b")))
        # With one letter more each edit but a put leads to no last fare.
        even = (("a",), (0, NONE), ((((1, 0),),), (((0, 0),),)), (NONE, 0))
        self.assertEqual(best_edit(even, ("a",) * 398), (0, ("cut", 0)))
        self.assertEqual(best_edit(even, ("a",) * 399), (0, ("change", 0, "a")))
        self.assertEqual(best_edit(even, ("a",) * 400), (0, ("cut", 0)))
        with self.assertRaises(Missing):
            best_edit((("a",), (0,), (((),),), (0,)), ("a",) * 400)

    def test_logs_that_are_none(self):
        for log in (("c",), ("a",) * 401):
            with self.assertRaises(NotAllowed):
                best_edit(PLAIN, log)


class TogetherTest(unittest.TestCase):
    def test_the_example(self):
        self.assertEqual(fares_together([PLAIN, PLAIN], ()), [6, 6])

    def test_each_machine(self):
        machines = [machine for machine in random_machines(63, 60) if machine[0] == ("a", "b")]
        machines += [PLAIN, COUNTER, FORK, HALF_USEFUL]
        for log in logs_up_to(("a", "b"), 4):
            self.assertEqual(fares_together(machines, log), [fare_of(machine, log) for machine in machines])
        self.assertEqual(fares_together([SINGLE, STUCK, SWAPPING], ("a", "a")), [2, NONE, 4])
        self.assertEqual(fares_together([SINGLE], ("a",) * 400), [400])

    def test_machines_that_do_not_fit(self):
        other = (("b", "a"),) + PLAIN[1:]
        for machines in ([], [PLAIN, SINGLE], [SINGLE, PLAIN], [PLAIN, PLAIN, other], [other, PLAIN]):
            with self.assertRaises(NotAllowed):
                fares_together(machines, ())
        self.assertEqual(fares_together([other, other], ("a",)), [fare_of(other, ("a",))] * 2)

    def test_logs_that_are_none(self):
        for log in (("b",), ("a",) * 401):
            with self.assertRaises(NotAllowed):
                fares_together([SINGLE, STUCK], log)

    def test_lists_stay_as_they_are(self):
        machines = [SINGLE, STUCK]
        found = fares_together(machines, ("a",))
        self.assertEqual(machines, [SINGLE, STUCK])
        found.clear()
        self.assertEqual(fares_together(machines, ("a",)), [1, NONE])
