"""Tests of faremachines.unions ([6.1])."""

import random
import unittest

from faremachines.errors import NotAllowed
from faremachines.unions import check_union, cheapest_members, union_fare
from tests.samples import NONE, answer_of, cost_of, logs_up_to, random_single

COUNT_A = (("a", "b"), 0, (((0, 1), (0, 0)),), (0,))
COUNT_B = (("a", "b"), 0, (((0, 0), (0, 1)),), (0,))
EMPTY = (("a", "b"), NONE, (), ())


def ring(states, letters=("a", "b")):
    """Return a single machine whose states lead to one another in a ring, by all letters."""
    rows = tuple([(((state + 1) % states, 1),) * len(letters) for state in range(states)])
    return letters, 0, rows, (0,) * states


class CheckTest(unittest.TestCase):
    def test_how_many_members(self):
        for many, right in ((0, False), (1, True), (2, True), (3, True), (4, False), (9, False)):
            self.assertEqual(answer_of(check_union, (COUNT_A,) * many), None if right else "NotAllowed")

    def test_how_many_states(self):
        for states, right in ((1, True), (6, True), (7, False), (60, False), (61, False)):
            for union in ((ring(states),), (COUNT_A, ring(states)), (ring(states), COUNT_A, EMPTY)):
                self.assertEqual(answer_of(check_union, union), None if right else "NotAllowed")
        self.assertEqual(check_union((EMPTY, EMPTY)), None)

    def test_other_letters(self):
        for letters in (("b", "a"), ("a",), ("a", "b", "c"), ("a", "d")):
            for union in ((COUNT_A, ring(2, letters)), (COUNT_A, COUNT_B, ring(2, letters)), (ring(2, letters), COUNT_A)):
                with self.assertRaises(NotAllowed):
                    check_union(union)
            self.assertEqual(check_union((ring(2, letters),)), None)

    def test_members_that_are_no_single_machines(self):
        for wrong in (
            (("a", "b"), 0, (), ()), (("a", "b"), 0, (((0, 1), (1, 0)),), (0,)), (("a", "b"), 0, (((0, 1),),), (0,)),
            (("a", "b"), 0, (((0, 1), (0, 1000001)),), (0,)), (("a", "b"), NONE, (((0, 1), (0, 0)),), (0,)),
        ):
            for union in ((wrong,), (COUNT_A, wrong), (COUNT_A, COUNT_B, wrong)):
                with self.assertRaises(NotAllowed):
                    check_union(union)


class FareTest(unittest.TestCase):
    def test_the_examples(self):
        self.assertEqual(union_fare((COUNT_A, COUNT_B), ("a", "a", "b")), 1)
        self.assertEqual(cheapest_members((COUNT_A, COUNT_B), ("a", "b")), (0, 1))

    def test_against_the_members(self):
        source = random.Random(270)
        found = {0: 0, 1: 0, 2: 0, 3: 0}
        for _ in range(80):
            sizes = [source.randrange(1, 4) for _ in range(source.randrange(1, 4))]
            union = tuple([random_single(source, size, 2, source.choice([0.7, 1]), source.choice([0, 2])) for size in sizes])
            if source.random() < 0.2:
                union = union[:2] + (EMPTY,)
            for log in logs_up_to(("a", "b"), 4):
                costs = [cost_of(member, log) for member in union]
                least = min([cost for cost in costs if cost != NONE], default=NONE)
                self.assertEqual(union_fare(union, log), least)
                cheapest = tuple([at for at, cost in enumerate(costs) if cost == least != NONE])
                self.assertEqual(cheapest_members(union, log), cheapest)
                found[len(cheapest)] += 1
        self.assertGreater(min(found.values()), 20, found)

    def test_logs_that_no_member_can_go(self):
        union = (ring(2)[:3] + ((NONE, 0),), EMPTY)
        self.assertEqual([union_fare(union, log) for log in ((), ("a",), ("b", "a"))], [NONE, 1, NONE])
        self.assertEqual([cheapest_members(union, log) for log in ((), ("a",), ("b", "a"))], [(), (0,), ()])
        self.assertEqual((union_fare((EMPTY,), ()), cheapest_members((EMPTY, EMPTY), ())), (NONE, ()))

    def test_logs_that_are_none(self):
        for log in (("c",), ("a", "c"), ("a",) * 401, ("",)):
            for union in ((COUNT_A, COUNT_B), (EMPTY,)):
                with self.assertRaises(NotAllowed):
                    union_fare(union, log)
                with self.assertRaises(NotAllowed):
                    cheapest_members(union, log)
        self.assertEqual(union_fare((COUNT_A, ring(3)), ("a",) * 399 + ("b",)), 399)
