"""Tests of faremachines.charts ([3.1])."""

import random
import unittest

from faremachines.charts import chart_of, fare_by_chart, product
from faremachines.errors import NotAllowed
from faremachines.machines import fare_of
from tests.samples import FORK, HALF_USEFUL, NONE, PLAIN, SINGLE, STUCK
from tests.samples import least, logs_up_to, random_machine, random_machines, rows_along, ways_of


def known_chart(machine, log):
    """Return the chart of a log, from all rows of states along it."""
    size = range(len(machine[1]))
    sums = {(s, t): [] for s in size for t in size}
    for row, total in rows_along(machine, log):
        sums[row[0], row[-1]].append(total)
    return tuple([tuple([least(sums[s, t]) for t in size]) for s in size])


class ChartTest(unittest.TestCase):
    def test_the_examples(self):
        self.assertEqual(chart_of(PLAIN, ("a",)), ((3, -1), (-1, 1)))
        self.assertEqual(chart_of(PLAIN, ("b", "a")), ((-1, 2), (3, 6)))
        chart = product(chart_of(PLAIN, ("a",)), chart_of(PLAIN, ("b", "a")))
        self.assertEqual(chart, chart_of(PLAIN, ("a", "b", "a")))
        self.assertEqual(fare_by_chart(PLAIN, chart), 9)

    def test_the_empty_log(self):
        self.assertEqual(chart_of(PLAIN, ()), ((0, -1), (-1, 0)))
        self.assertEqual(chart_of(FORK, ()), ((0, -1, -1, -1), (-1, 0, -1, -1), (-1, -1, 0, -1), (-1, -1, -1, 0)))
        for machine in (PLAIN, FORK, HALF_USEFUL, STUCK, SINGLE):
            self.assertEqual(fare_by_chart(machine, chart_of(machine, ())), fare_of(machine, ()))

    def test_one_letter(self):
        # The chart has the fares of the moves, of states that are not useful, too.
        self.assertEqual(chart_of(HALF_USEFUL, ("a",)), ((1, 2, NONE), (NONE, 3, NONE), (0, 1, 5)))
        self.assertEqual(chart_of(HALF_USEFUL, ("b",)), ((NONE, 0, NONE), (NONE, NONE, NONE), (NONE, NONE, 1)))

    def test_against_all_rows(self):
        for machine in random_machines(30, 40, states=3):
            for log in logs_up_to(machine[0], 4):
                chart = chart_of(machine, log)
                self.assertEqual(chart, known_chart(machine, log))
                self.assertEqual(fare_by_chart(machine, chart), least([fare for fare, _ in ways_of(machine, log)]))

    def test_logs_cut_at_each_place(self):
        for machine in random_machines(31, 40, states=5, letters=3):
            log = machine[0] * 4
            chart = chart_of(machine, log)
            for at in range(len(log) + 1):
                self.assertEqual(product(chart_of(machine, log[:at]), chart_of(machine, log[at:])), chart)

    def test_both_groupings(self):
        source = random.Random(32)
        for machine in random_machines(33, 60, states=8, letters=4):
            one, two, three = [
                chart_of(machine, tuple(source.choices(machine[0], k=source.randrange(4)))) for _ in range(3)
            ]
            self.assertEqual(product(product(one, two), three), product(one, product(two, three)))

    def test_charts_of_no_machine(self):
        one = ((NONE, 4, 1000), (0, NONE, NONE), (NONE, NONE, NONE))
        two = ((7, NONE, NONE), (NONE, NONE, 1), (NONE, 0, 3))
        self.assertEqual(product(one, two), ((NONE, 1000, 5), (7, NONE, NONE), (NONE, NONE, NONE)))
        self.assertEqual(product(two, one), ((NONE, 11, 1007), (NONE, NONE, NONE), (0, NONE, NONE)))

    def test_the_fare_by_a_chart(self):
        machine = (("a",), (1, NONE, 5), (((),), ((),), ((),)), (NONE, 2, 3))
        for row, fare in (
            (((4, 9, 9), (0, 0, 0), (NONE, NONE, NONE)), 12),
            (((4, NONE, 9), (0, 0, 0), (0, 7, 6)), 13),
            (((4, NONE, NONE), (0, 0, 0), (0, NONE, NONE)), NONE),
            (((NONE, NONE, 1000), (0, 0, 0), (NONE, NONE, NONE)), 1004),
        ):
            self.assertEqual(fare_by_chart(machine, row), fare)

    def test_long_logs(self):
        machine = random_machine(random.Random(34), 8, 4, 0.4)
        log = machine[0] * 100
        self.assertEqual(fare_by_chart(machine, chart_of(machine, log)), fare_of(machine, log))
        half = chart_of(machine, log[:200])
        self.assertEqual(product(half, half), chart_of(machine, log))

    def test_logs_that_are_none(self):
        for log in (("c",), ("a", "b", "c"), ("",), ("ab",), ("a",) * 401):
            with self.assertRaises(NotAllowed):
                chart_of(PLAIN, log)
