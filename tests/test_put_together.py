"""Tests of faremachines.machines: machines put together, and turned ([1.6])."""

import unittest

from faremachines.errors import NotAllowed, TooLarge
from faremachines.machines import both, check_machine, either, fare_of, turned
from tests.samples import NONE, PLAIN, SINGLE, STUCK, SWAPPING, least, logs_up_to, random_machine, random_machines
from random import Random


def lone(letters, first, fare, last):
    """Return a machine with one state, that each letter leads back to itself."""
    return letters, (first,), ((((0, fare),),) * len(letters),), (last,)


def pairs_of_machines(seed, many, letters=2):
    """Return a list of pairs of machines with the same letters, that can be put together in both ways."""
    source = Random(seed)
    pairs = []
    for _ in range(many):
        sizes = source.choice([(1, 1), (1, 3), (2, 2), (2, 3), (3, 2), (4, 2)])
        density = source.choice([0.4, 0.7, 1.0])
        pairs.append(tuple([random_machine(source, size, letters, density) for size in sizes]))
    return pairs


class EitherTest(unittest.TestCase):
    def test_state_by_state(self):
        first = (("a", "b"), (1, NONE), ((((0, 2), (1, 3)), ()), (((1, 4),), ((0, 5),))), (NONE, 6))
        second = (("a", "b"), (NONE, 7), ((((1, 8),), ((0, 9), (1, 1))), ((), ((0, 2),))), (3, NONE))
        expected = (
            ("a", "b"),
            (1, NONE, NONE, 7),
            (
                (((0, 2), (1, 3)), ()),
                (((1, 4),), ((0, 5),)),
                (((3, 8),), ((2, 9), (3, 1))),
                ((), ((2, 2),)),
            ),
            (NONE, 6, 3, NONE),
        )
        self.assertEqual(either(first, second), expected)

    def test_the_lesser_one_of_both_fares(self):
        for first, second in pairs_of_machines(5, 30):
            machine = either(first, second)
            self.assertIsNone(check_machine(machine))
            for log in logs_up_to(machine[0], 3):
                fares = [fare_of(first, log), fare_of(second, log)]
                self.assertEqual(fare_of(machine, log), least([fare for fare in fares if fare != NONE]))

    def test_the_example(self):
        self.assertEqual(fare_of(either(PLAIN, turned(PLAIN)), ()), 6)

    def test_up_to_eight_states(self):
        four = either(PLAIN, PLAIN)
        eight = either(four, four)
        self.assertEqual(len(eight[1]), 8)
        one = lone(("a", "b"), 0, 0, 0)
        for first, second in ((eight, one), (one, eight), (four, either(four, one))):
            with self.assertRaises(TooLarge):
                either(first, second)
        self.assertEqual(len(either(either(four, PLAIN), PLAIN)[1]), 8)


class BothTest(unittest.TestCase):
    def test_state_by_state(self):
        first = (("a", "b"), (1, NONE), ((((0, 2), (1, 3)), ()), (((1, 4),), ((0, 5),))), (NONE, 6))
        second = (("a", "b"), (10, NONE, 20), (((), ((0, 30),)), (((0, 40), (2, 50)), ()), (((1, 60),), ((1, 70),))), (0, 80, NONE))
        expected = (
            ("a", "b"),
            (11, NONE, 21, NONE, NONE, NONE),
            (
                ((), ()),
                (((0, 42), (2, 52), (3, 43), (5, 53)), ()),
                (((1, 62), (4, 63)), ()),
                ((), ((0, 35),)),
                (((3, 44), (5, 54)), ()),
                (((4, 64),), ((1, 75),)),
            ),
            (NONE, NONE, NONE, 6, 86, NONE),
        )
        self.assertEqual(both(first, second), expected)

    def test_the_sum_of_both_fares(self):
        for first, second in pairs_of_machines(6, 30):
            machine = both(first, second)
            self.assertIsNone(check_machine(machine))
            for log in logs_up_to(machine[0], 3):
                fares = (fare_of(first, log), fare_of(second, log))
                self.assertEqual(fare_of(machine, log), NONE if NONE in fares else sum(fares))

    def test_the_example(self):
        self.assertEqual(fare_of(both(PLAIN, PLAIN), ("a", "b", "a")), 18)

    def test_up_to_eight_states(self):
        four = either(PLAIN, PLAIN)
        self.assertEqual(len(both(four, PLAIN)[1]), 8)
        self.assertEqual(len(both(PLAIN, four)[1]), 8)
        three = either(PLAIN, lone(("a", "b"), 0, 0, 0))
        for first, second in ((three, three), (four, three), (four, four)):
            with self.assertRaises(TooLarge):
                both(first, second)

    def test_fares_above_the_greatest_one(self):
        letters = ("a", "b")
        self.assertEqual(both(lone(letters, 49, 0, 0), lone(letters, 50, 99, 99))[1], (99,))
        self.assertEqual(both(lone(letters, 99, 99, 99), lone(letters, 0, 0, 0)), lone(letters, 99, 99, 99))
        for parts in ((50, 0, 0), (0, 50, 0), (0, 0, 50)):
            with self.assertRaises(TooLarge, msg=parts):
                both(lone(letters, *parts), lone(letters, *parts))
        # There is no sum where one of both has no fare.
        self.assertEqual(both(lone(letters, 99, 0, NONE), lone(letters, NONE, 0, 99))[1], (NONE,))

    def test_a_great_fare_counts_wherever_it_stands(self):
        one = (("a",), (NONE, 0), (((),), (((0, 60),),)), (0, 0))
        two = (("a",), (0,), ((((0, 40),),),), (0,))
        with self.assertRaises(TooLarge):
            both(one, two)
        with self.assertRaises(TooLarge):
            both(two, one)

    def test_machines_without_moves(self):
        bare = (("a",), (3,), (((),),), (4,))
        self.assertEqual(both(bare, bare), (("a",), (6,), (((),),), (8,)))


class LettersTest(unittest.TestCase):
    def test_other_letters(self):
        for letters in (("a",), ("b", "a"), ("a", "c"), ("a", "b", "c")):
            other = lone(letters, 0, 0, 0)
            for function in (either, both):
                with self.assertRaises(NotAllowed):
                    function(PLAIN, other)
                with self.assertRaises(NotAllowed):
                    function(other, PLAIN)

    def test_other_letters_are_told_ahead_of_too_large(self):
        eight = (("a",), (0,) * 8, ((((0, 99),),),) * 8, (0,) * 8)
        other = (("b",), (0,) * 8, ((((0, 99),),),) * 8, (0,) * 8)
        for function in (either, both):
            with self.assertRaises(TooLarge):
                function(eight, eight)
            with self.assertRaises(NotAllowed):
                function(eight, other)
        with self.assertRaises(NotAllowed):
            both(lone(("a",), 99, 99, 99), lone(("b",), 99, 99, 99))


class TurnedTest(unittest.TestCase):
    def test_state_by_state(self):
        machine = (("a", "b"), (1, NONE), ((((0, 2), (1, 3)), ()), (((1, 4),), ((0, 5), (1, 6)))), (NONE, 7))
        expected = (("a", "b"), (NONE, 7), ((((0, 2),), ((1, 5),)), (((0, 3), (1, 4)), ((1, 6),))), (1, NONE))
        self.assertEqual(turned(machine), expected)

    def test_twice_turned(self):
        for machine in random_machines(7, 40, states=8, letters=4) + [PLAIN, SINGLE, STUCK, SWAPPING]:
            self.assertIsNone(check_machine(turned(machine)))
            self.assertEqual(turned(turned(machine)), machine)

    def test_the_log_from_its_end_costs_the_same(self):
        for machine in random_machines(8, 40):
            for log in logs_up_to(machine[0], 4):
                self.assertEqual(fare_of(turned(machine), log[::-1]), fare_of(machine, log))

    def test_the_example(self):
        self.assertEqual(fare_of(turned(PLAIN), ("a", "b", "a")), 9)
