"""Tests of faremachines.edited ([3.2])."""

import random
import unittest

from faremachines.edited import Edited
from faremachines.errors import NotAllowed
from faremachines.machines import fare_of, fares_behind, fares_from
from tests.samples import FORK, NONE, PLAIN, SINGLE
from tests.samples import ahead, behind, edited_log, known_fare, logs_up_to, possible_edits, random_machines

NO_EDITS = (
    ("cut", 3), ("cut", -1), ("change", 3, "a"), ("change", -1, "a"), ("put", 4, "a"), ("put", -1, "a"),
    ("put", 0, "c"), ("put", 0, ""), ("put", 0, "ab"), ("change", 0, "c"), ("change", 0, ""),
    ("put", 0), ("change", 0), ("cut", 0, "a"), ("cut", 0, "c"),
    ("swap", 0, "a"), ("", 0), ("Cut", 0), ("puts", 0, "a"), ("changed", 0, "a"),
)


def told(kept):
    """Return all that an Edited tells of its log."""
    counts = range(kept.length() + 1)
    return (
        kept.log(), kept.fare(), kept.length(),
        [kept.fares_behind(count) for count in counts], [kept.fares_from(count) for count in counts],
        [kept.slice_fare(first, last) for last in counts for first in range(last + 1)],
    )


class EditedTest(unittest.TestCase):
    def check(self, kept, machine, log):
        """Assert that all is told of a log, as a new one with this log tells it."""
        self.assertEqual(told(kept), told(Edited(machine, log)))
        self.assertEqual(kept.log(), log)
        self.assertEqual(kept.length(), len(log))
        self.assertEqual(kept.fare(), fare_of(machine, log))
        for count in range(len(log) + 1):
            self.assertEqual(kept.fares_behind(count), fares_behind(machine, log[:count]))
            self.assertEqual(kept.fares_from(count), fares_from(machine, log[count:]))

    def test_the_example(self):
        kept = Edited(PLAIN, ("a", "b", "a"))
        self.assertEqual((kept.fare(), kept.slice_fare(0, 1), kept.fare_with(("cut", 1))), (9, 7, 8))
        self.assertEqual((kept.edit(("change", 1, "a")), kept.fare()), (None, 9))

    def test_a_log_that_is_not_edited(self):
        for machine in random_machines(40, 25, states=3):
            for log in logs_up_to(machine[0], 3):
                kept = Edited(machine, log)
                self.assertEqual((kept.log(), kept.length()), (log, len(log)))
                self.assertEqual(kept.fare(), known_fare(machine, log))
                for count in range(len(log) + 1):
                    self.assertEqual(kept.fares_behind(count), behind(machine, log[:count]))
                    self.assertEqual(kept.fares_from(count), ahead(machine, log[count:]))
                    for first in range(count + 1):
                        self.assertEqual(kept.slice_fare(first, count), known_fare(machine, log[first:count]))

    def test_each_edit(self):
        for machine in random_machines(41, 20, states=3):
            for log in logs_up_to(machine[0], 3):
                for edit in possible_edits(machine, log):
                    kept = Edited(machine, log)
                    behind_it = edited_log(log, edit)
                    self.assertEqual(kept.fare_with(edit), known_fare(machine, behind_it))
                    self.check(kept, machine, log)
                    self.assertIsNone(kept.edit(edit))
                    self.check(kept, machine, behind_it)

    def test_many_edits(self):
        source = random.Random(42)
        for machine in random_machines(43, 12, states=8, letters=4):
            log = ()
            kept = Edited(machine, log)
            for _ in range(40):
                edit = source.choice(possible_edits(machine, log))
                log = edited_log(log, edit)
                self.assertEqual(kept.fare_with(edit), fare_of(machine, log))
                kept.edit(edit)
                self.check(kept, machine, log)

    def test_first_and_last_index(self):
        for edit, log in (
            (("put", 0, "b"), ("b", "a", "b", "a")),
            (("put", 3, "b"), ("a", "b", "a", "b")),
            (("cut", 0), ("b", "a")),
            (("cut", 2), ("a", "b")),
            (("change", 0, "b"), ("b", "b", "a")),
            (("change", 2, "b"), ("a", "b", "b")),
            (("change", 1, "b"), ("a", "b", "a")),
        ):
            kept = Edited(PLAIN, ("a", "b", "a"))
            self.assertEqual(kept.fare_with(edit), known_fare(PLAIN, log))
            kept.edit(edit)
            self.check(kept, PLAIN, log)

    def test_edits_that_are_not_possible(self):
        kept = Edited(PLAIN, ("a", "b", "a"))
        before = told(kept)
        for edit in NO_EDITS:
            for call in (kept.edit, kept.fare_with):
                with self.assertRaises(NotAllowed, msg=edit):
                    call(edit)
                self.assertEqual(told(kept), before)
        self.check(kept, PLAIN, ("a", "b", "a"))

    def test_the_empty_log(self):
        kept = Edited(PLAIN, ())
        self.check(kept, PLAIN, ())
        for edit in (("cut", 0), ("cut", -1), ("change", 0, "a"), ("change", -1, "a"), ("put", 1, "a")):
            with self.assertRaises(NotAllowed):
                kept.edit(edit)
        kept.edit(("put", 0, "a"))
        self.check(kept, PLAIN, ("a",))
        kept.edit(("cut", 0))
        self.check(kept, PLAIN, ())

    def test_a_log_of_four_hundred_letters(self):
        log = ("a", "b") * 200
        kept = Edited(PLAIN, log)
        for edit in (("put", 0, "a"), ("put", 200, "b"), ("put", 400, "a"), ("cut", 400), ("change", 400, "a")):
            for call in (kept.edit, kept.fare_with):
                with self.assertRaises(NotAllowed):
                    call(edit)
        self.assertEqual((kept.log(), kept.length(), kept.fare()), (log, 400, fare_of(PLAIN, log)))
        self.assertEqual(kept.fare_with(("cut", 399)), fare_of(PLAIN, log[:399]))
        self.assertEqual(kept.fare_with(("change", 399, "a")), fare_of(PLAIN, log[:399] + ("a",)))
        kept.edit(("change", 0, "b"))
        kept.edit(("cut", 399))
        kept.edit(("put", 399, "a"))
        self.assertEqual(kept.log(), ("b",) + log[1:399] + ("a",))
        self.assertEqual(kept.fare(), fare_of(PLAIN, kept.log()))
        self.assertEqual(kept.fares_behind(400), fares_behind(PLAIN, kept.log()))

    def test_logs_that_are_none(self):
        for log in (("c",), ("a", ""), ("a",) * 401):
            with self.assertRaises(NotAllowed):
                Edited(PLAIN, log)

    def test_slices_at_the_edges(self):
        kept = Edited(PLAIN, ("a", "b", "a"))
        before = told(kept)
        self.assertEqual([kept.slice_fare(at, at) for at in range(4)], [6] * 4)
        self.assertEqual((kept.slice_fare(0, 3), kept.slice_fare(1, 3), kept.slice_fare(2, 3)), (9, 6, 7))
        for first, last in ((0, 4), (-1, 0), (-1, 2), (1, 0), (3, 2), (4, 4), (2, -1), (-2, -1)):
            with self.assertRaises(NotAllowed, msg=(first, last)):
                kept.slice_fare(first, last)
        self.assertEqual(told(kept), before)

    def test_counts_at_the_edges(self):
        kept = Edited(PLAIN, ("a", "b", "a"))
        self.assertEqual((kept.fares_behind(0), kept.fares_behind(3)), ((0, 2), (6, 5)))
        self.assertEqual((kept.fares_from(0), kept.fares_from(3)), ((9, 11), (-1, 4)))
        for count in (-1, 4, -4, 100):
            for call in (kept.fares_behind, kept.fares_from):
                with self.assertRaises(NotAllowed):
                    call(count)
        kept.edit(("cut", 1))
        for call in (kept.fares_behind, kept.fares_from):
            with self.assertRaises(NotAllowed):
                call(3)

    def test_logs_that_cannot_be_gone(self):
        kept = Edited(FORK, ("a",))
        self.assertEqual(kept.fare_with(("put", 0, "b")), 1)
        machine = (("a", "b"), (0, NONE), (((), ((1, 2),)), (((1, 0),), ())), (NONE, 5))
        kept = Edited(machine, ("a", "b"))
        self.assertEqual((kept.fare(), kept.slice_fare(0, 0), kept.slice_fare(1, 2)), (NONE, NONE, 7))
        self.assertEqual((kept.fare_with(("cut", 0)), kept.fare_with(("cut", 1))), (7, NONE))
        kept.edit(("cut", 0))
        self.assertEqual(kept.fare(), 7)

    def test_copies_go_on_alone(self):
        kept = Edited(PLAIN, ("a", "b", "a"))
        copied = kept.copy()
        self.assertIs(type(copied), Edited)
        self.assertEqual(told(copied), told(kept))
        kept.edit(("cut", 0))
        self.check(copied, PLAIN, ("a", "b", "a"))
        copied.edit(("put", 3, "b"))
        further = copied.copy()
        copied.edit(("change", 0, "b"))
        self.check(kept, PLAIN, ("b", "a"))
        self.check(copied, PLAIN, ("b", "b", "a", "b"))
        self.check(further, PLAIN, ("a", "b", "a", "b"))

    def test_two_logs_of_one_machine(self):
        one, other = Edited(SINGLE, ("a",)), Edited(SINGLE, ("a",))
        one.edit(("put", 0, "a"))
        self.assertEqual((one.fare(), other.fare()), (2, 1))
