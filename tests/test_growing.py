"""Tests of faremachines.growing ([7.3], [7.4])."""

import random
import unittest

from faremachines.errors import Missing, NotAllowed, TooLarge
from faremachines.growing import check_expression, growing_paper, judge_growing, log_of, table_of
from faremachines.limits import closed_paper, is_limited
from faremachines.machines import fare_of
from tests import tables
from tests.samples import COUNTER, FORK, NONE, PLAIN, SINGLE, STUCK, SWAPPING, answer_of, random_machine, random_machines
from tests.test_limits import ALONE, free_machines

AB = ("row", ("a", "b"))
# Turns within turns are needed here: those of a and b alone come to an end.
NESTED = (
    ("a", "b"),
    (0, NONE, NONE, NONE, NONE),
    (
        (((1, 0), (4, 1)), ((0, 1), (2, 0), (3, 1))),
        (((0, 0), (1, 0), (3, 0), (4, 0)), ((0, 0),)),
        (((4, 0),), ()),
        (((0, 0), (1, 1), (4, 0)), ((0, 0), (3, 0), (4, 0))),
        (((2, 0), (3, 0), (4, 0)), ((2, 0),)),
    ),
    (NONE, 0, 0, 0, NONE),
)


def nested(many, word="turns", inner="a"):
    """Return an expression of so many tuples around one another."""
    for _ in range(many):
        inner = ("turns", inner) if word == "turns" else ("row", (inner,))
    return inner


def turns_in(told):
    """Return how many turns stand around one another."""
    if isinstance(told, str):
        return 0
    return 1 + turns_in(told[1]) if told[0] == "turns" else max([turns_in(part) for part in told[1]])


class CheckTest(unittest.TestCase):
    def test_expressions(self):
        for told in (
            "a", "b", ("turns", "a"), ("row", ("a",)), AB, ("turns", AB), ("row", (("turns", "a"), AB, "b")),
            ("turns", ("turns", ("turns", "a"))), ("row", ("a",) * 500), ("row", (("row", ("a",)), ("row", ("b",)))),
        ):
            self.assertIsNone(check_expression(COUNTER, told))
            self.assertTrue(tables.expression_told(COUNTER, told))

    def test_what_is_no_expression(self):
        for told in (
            "c", "", "ab", "row", "turns", (), ("a",), ("row",), ("turns",), ("row", ()), ("row", "a"), ("row", "ab"),
            ("turns", ()), ("turns", ("a",)), ("turns", ("a", "b")), ("turns", "c"), ("row", ("a", "c")), ("row", ("a", ())),
            ("turns", "a", "b"), ("row", ("a",), ("b",)), ("rows", ("a",)), ("", ("a",)), ("a", "b"), ("a", ("a",)),
            (("row", ("a",)), "a"), (("a",), ("b",)), ("row", ("a", ("row", ()))), ("turns", ("row", "a")), ((), ()),
            ("row", ("row", ("a",))), ("turn", "a"),
        ):
            self.assertFalse(tables.expression_told(COUNTER, told), told)
            with self.assertRaises(NotAllowed):
                check_expression(COUNTER, told)
            with self.assertRaises(NotAllowed):
                table_of(COUNTER, told)
            self.assertIs(judge_growing(COUNTER, told), False)

    def test_words_that_are_letters(self):
        machine = (("row", "turns"), (0,), ((((0, 1),), ((0, 0),)),), (0,))
        for told, right in (("row", True), ("turns", True), (("row", ("row", "turns")), True), (("turns", "turns"), True),
                            (("row", "turns"), False), (("turns", ("row", "turns")), False), ("a", False)):
            self.assertEqual(answer_of(check_expression, machine, told), None if right else "NotAllowed")
        self.assertIs(judge_growing(machine, ("turns", "row")), True)
        self.assertIs(judge_growing(machine, ("turns", "turns")), False)

    def test_how_many_stand_around_one_another(self):
        for word in ("turns", "row"):
            for many, right in ((0, True), (29, True), (30, True), (31, False), (32, False), (2000, False)):
                self.assertEqual(answer_of(check_expression, SINGLE, nested(many, word)), None if right else "NotAllowed")
                self.assertIs(judge_growing(SINGLE, nested(many, word)), right and word == "turns" and many > 0)
        # Beside one another they may be more.
        self.assertIsNone(check_expression(COUNTER, ("row", (nested(29), nested(29, "row"), "b"))))
        self.assertEqual(answer_of(check_expression, COUNTER, ("row", ("b", nested(30)))), "NotAllowed")


class TableTest(unittest.TestCase):
    def test_the_example(self):
        self.assertEqual(table_of(COUNTER, ("turns", "a")), ((2, 3), (3, 0)))

    def test_against_the_definition(self):
        source = random.Random(320)
        found = {"table": 0, "Missing": 0}

        def told(machine, depth):
            kind = source.choice(["letter", "row", "turns"]) if depth > 0 else "letter"
            if kind == "letter":
                return source.choice(machine[0])
            if kind == "turns":
                return ("turns", told(machine, depth - 1))
            return ("row", tuple([told(machine, depth - 1) for _ in range(source.randrange(1, 4))]))

        for machine in free_machines(321, 200):
            for _ in range(5):
                expression = told(machine, 3)
                known = tables.table_told(machine, expression)
                self.assertEqual(answer_of(table_of, machine, expression), "Missing" if known is None else known)
                found["Missing" if known is None else "table"] += 1
                judged = known is not None and tables.worth(machine, known) == 2
                self.assertIs(judge_growing(machine, expression), judged)
        self.assertGreater(min(found.values()), 100, found)

    def test_parts_that_are_not_steady(self):
        for told in (("turns", "a"), ("row", ("a", ("turns", "a"))), ("turns", ("turns", "a")), ("row", (("turns", "a"), "a"))):
            with self.assertRaises(Missing):
                table_of(SWAPPING, told)
            self.assertIs(judge_growing(SWAPPING, told), False)
        self.assertEqual(table_of(SWAPPING, ("turns", ("row", ("a", "a")))), ((2, 3), (3, 2)))


class LogTest(unittest.TestCase):
    def test_the_example(self):
        self.assertEqual(log_of(("turns", AB), 2), ("a", "b", "a", "b"))

    def test_against_the_definition(self):
        for told in ("a", AB, ("turns", "b"), ("row", (("turns", AB), "a", ("turns", "b"))), nested(3), nested(5, "row")):
            for n in (1, 2, 3):
                self.assertEqual(log_of(told, n), tables.log_told(told, n))
        self.assertEqual(log_of(("turns", ("row", (("turns", "a"), "b"))), 2), ("a", "a", "b", "a", "a", "b"))

    def test_integers_below_1(self):
        for n in (0, -1, -400):
            for told in ("a", AB, ("turns", "a"), ("row", ("a",) * 500)):
                with self.assertRaises(NotAllowed):
                    log_of(told, n)

    def test_just_400_letters(self):
        for told, n, large in (
            (("turns", "a"), 400, False), (("turns", "a"), 401, True), (("turns", "a"), 10 ** 30, True),
            (("row", ("a",) * 400), 9, False), (("row", ("a",) * 401), 1, True), (("turns", ("turns", "a")), 20, False),
            (("turns", ("turns", "a")), 21, True), (nested(30), 1, False), (nested(30), 2, True), ("a", 10 ** 30, False),
            (("row", (("turns", AB), "a")), 199, False), (("row", (("turns", AB), "a")), 200, True),
        ):
            if large:
                with self.assertRaises(TooLarge):
                    log_of(told, n)
            else:
                self.assertEqual(log_of(told, n), tables.log_told(told, n))


class GrowingTest(unittest.TestCase):
    def test_the_examples(self):
        self.assertIs(judge_growing(COUNTER, ("turns", AB)), True)
        self.assertIs(judge_growing(COUNTER, ("turns", "a")), False)

    def test_just_one_of_both_papers(self):
        papers = {"growing": 0, "closed": 0, "TooLarge": 0}
        for machine in free_machines(322, 250) + random_machines(323, 60) + [NESTED, COUNTER, ALONE, STUCK, FORK, PLAIN]:
            paper = answer_of(growing_paper, machine)
            limited = answer_of(is_limited, machine)
            if paper == "TooLarge":
                self.assertEqual(limited, paper)
            elif paper == "Missing":
                self.assertIs(limited, True)
                self.assertIsInstance(closed_paper(machine), tuple)
            else:
                self.assertIs(limited, False)
                self.assertEqual(answer_of(closed_paper, machine), "Missing")
                self.assertIs(judge_growing(machine, paper), True)
                self.assertEqual(tables.worth(machine, tables.table_told(machine, paper)), 2)
            kind = paper if paper == "TooLarge" else "closed" if paper == "Missing" else "growing"
            papers[kind] += 1
        self.assertGreater(min(papers["growing"], papers["closed"]), 30, papers)

    def test_the_logs_cost_what_is_said(self):
        told = 0
        for machine in free_machines(324, 250) + [NESTED, COUNTER, SINGLE]:
            paper = answer_of(growing_paper, machine)
            if paper in ("Missing", "TooLarge"):
                continue
            for n in (1, 2, 3, 5, 8, 13, 40, 90):
                log = answer_of(log_of, paper, n)
                if log != "TooLarge":
                    self.assertGreaterEqual(fare_of(machine, log), n // len(machine[1]))
                    self.assertNotEqual(fare_of(machine, log), NONE)
                    told += 1
        self.assertGreater(told, 200)

    def test_turns_within_turns(self):
        paper = growing_paper(NESTED)
        self.assertEqual(turns_in(paper), 2)
        self.assertIs(judge_growing(NESTED, paper), True)
        fares = [fare_of(NESTED, log_of(paper, n)) for n in range(1, 9)]
        self.assertEqual(fares, sorted(fares))
        self.assertGreater(fares[-1], fares[0])

    def test_large_machines(self):
        source = random.Random(325)
        papers = 0
        for _ in range(40):
            machine = random_machine(source, 8, source.choice([1, 2]), source.choice([0.1, 0.2, 0.3]), 1)
            paper = answer_of(growing_paper, machine)
            if paper not in ("Missing", "TooLarge"):
                self.assertIs(judge_growing(machine, paper), True)
                papers += 1
        self.assertGreater(papers, 0)
