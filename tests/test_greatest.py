"""Tests of faremachines.greatest ([7.6], [7.7])."""

import random
import unittest
from unittest import mock

from faremachines import greatest
from faremachines.errors import Missing, NotAllowed, TooLarge
from faremachines.greatest import first_log, greatest_fare, judge_rows, row_paper
from faremachines.limits import is_limited
from faremachines.machines import fare_of
from tests import tables
from tests.samples import COUNTER, FORK, HALF_USEFUL, NONE, PLAIN, SINGLE, STUCK, answer_of, known_fare, logs_up_to
from tests.samples import random_machine, random_machines, variants
from tests.test_limits import ALONE, free_machines

ROWS = [[int]]


def rows_of(machine, c, most=400):
    """Return the cut rows in the order in which they come up, None if there are more than so many."""
    first = tuple([min(fare, c) for fare in machine[1]])
    found = [first]
    for row in found:
        for letter in machine[0]:
            after = tables.next_fares(machine, row, letter, c)
            found += [after] if after not in found else []
        if len(found) > most:
            return None
    return found


def stairs(steps, fare):
    """Return a limited machine of one letter: so many states one after another, for a fare each, the last one free."""
    moves = tuple([(((min(state + 1, steps), fare if state < steps else 0),),) for state in range(steps + 1)])
    return ("a",), (0,) + (NONE,) * steps, moves, (0,) * (steps + 1)


class FirstLogTest(unittest.TestCase):
    def test_the_example(self):
        self.assertEqual(first_log(COUNTER, 2), ("a", "a", "b", "b"))

    def test_against_all_shorter_logs(self):
        lengths = {}
        for machine in random_machines(330, 200) + free_machines(331, 100) + [PLAIN, FORK, HALF_USEFUL]:
            for c in (1, 2, 5, 20):
                log = answer_of(first_log, machine, c)
                short = [known for known in logs_up_to(machine[0], 5) if fare_of(machine, known) >= c]
                if short:
                    self.assertEqual(log, short[0], (machine, c))
                elif log != "Missing":
                    self.assertTrue(log == "TooLarge" or len(log) > 5 and fare_of(machine, log) >= c, (machine, c))
                kind = min(len(log), 6) if isinstance(log, tuple) else log
                lengths[kind] = lengths.get(kind, 0) + 1
        self.assertTrue({0, 1, 2, 3, "Missing"} <= set(lengths), lengths)

    def test_integers_below_1(self):
        for c in (0, -1, -99):
            for machine in (COUNTER, STUCK, ALONE):
                for function in (first_log, row_paper):
                    with self.assertRaises(NotAllowed):
                        function(machine, c)
                with self.assertRaises(NotAllowed):
                    judge_rows(machine, c, ())
                with self.assertRaises(NotAllowed):
                    judge_rows(machine, c, ((0,),))

    def test_logs_of_more_than_400_letters(self):
        self.assertEqual(first_log(SINGLE, 400), ("a",) * 400)
        for c in (401, 1999, 2000):
            with self.assertRaises(TooLarge):
                first_log(SINGLE, c)
            # The rows are not too many, and so a log costs so much.
            with self.assertRaises(Missing):
                row_paper(SINGLE, c)
        for c in (2001, 10 ** 6):
            with self.assertRaises(TooLarge):
                first_log(SINGLE, c)
            with self.assertRaises(TooLarge):
                row_paper(SINGLE, c)

    def test_just_2000_rows(self):
        # A state that counts, and no last fare: c + 1 rows, and none with which a log costs something.
        counting = (("a",), (0,), ((((0, 1),),),), (NONE,))
        for c, large in ((1998, False), (1999, False), (2000, True), (2001, True)):
            self.assertEqual(answer_of(first_log, counting, c), "TooLarge" if large else "Missing")
            paper = answer_of(row_paper, counting, c)
            self.assertEqual(paper, "TooLarge" if large else tuple([(fare,) for fare in range(c + 1)]))
        # 2000 rows come up ahead of the one behind this log, or 2001.
        for c, large in ((2000, False), (2001, True)):
            self.assertEqual(answer_of(row_paper, SINGLE, c), "TooLarge" if large else "Missing")

    def test_more_rows_than_there_may_be(self):
        told = {"log": 0, "TooLarge": 0, "Missing": 0, "paper": 0}
        for machine in random_machines(332, 150):
            for c in (1, 4, 9):
                rows = rows_of(machine, c)
                if rows is None:
                    continue
                dear = [at for at, row in enumerate(rows) if tables.cost_behind(machine, row) >= c]
                for most in (1, 4, 12):
                    with mock.patch.object(greatest, "MAX_ROWS", most):
                        large = dear[0] > most if dear else len(rows) > most
                        log, paper = answer_of(first_log, machine, c), answer_of(row_paper, machine, c)
                        self.assertEqual(log == "TooLarge", large, (machine, c))
                        self.assertEqual(paper == "TooLarge", large)
                        if not large:
                            self.assertEqual(log == "Missing", not dear)
                            self.assertEqual(paper, "Missing" if dear else tuple(sorted(rows)))
                        told["TooLarge" if large else "log" if dear else "paper"] += 1
                        told["Missing"] += not large
        self.assertGreater(min(told.values()), 50, told)


class RowPaperTest(unittest.TestCase):
    def test_the_examples(self):
        self.assertEqual((row_paper(ALONE, 6), judge_rows(COUNTER, 1, ((0, 0),))), (((0,),), False))
        with self.assertRaises(Missing):
            row_paper(ALONE, 5)

    def test_papers_with_one_thing_changed(self):
        source = random.Random(333)
        judged = {True: 0, False: 0}
        for machine in random_machines(334, 150) + free_machines(335, 100):
            for c in (1, 3, 25):
                rows = rows_of(machine, c, 30)
                if rows is None:
                    continue
                paper = tuple(sorted(rows))
                papers = variants(ROWS, paper)
                papers = [paper] + source.sample(papers, min(len(papers), 15))
                papers += [tuple(sorted(set(changed))) for changed in papers]
                # Needless rows with all that comes up from them.
                more = list(paper) + [tuple([source.randrange(-1, min(c, 3) + 1) for _ in machine[1]])]
                for row in more:
                    come = [tables.next_fares(machine, row, letter, c) for letter in machine[0]]
                    more += [after for after in come if after not in more] if len(more) < 60 else []
                papers.append(tuple(sorted(set(more))))
                for changed in papers:
                    right = tables.is_row_paper(machine, c, changed) if () not in changed else False
                    self.assertIs(judge_rows(machine, c, changed), right, (machine, c, changed))
                    judged[right] += 1
        self.assertGreater(min(judged.values()), 300, judged)

    def test_rows_that_are_none(self):
        for row in ((), (0, 0), (-2,), (7,), (99,)):
            for paper in (((0,), row), (row, (0,)), (row,)):
                self.assertIs(judge_rows(ALONE, 6, paper), False)
        # Behind each row nothing is reached, so that all rows of integers from -1 to c may be there.
        nowhere = (("a",), (0, 0), (((),), ((),)), (NONE, NONE))
        for row, right in (((0, 1), True), ((4, 4), True), ((0, -2), False), ((5, 0), False), ((0, 5), False), ((-2, 0), False)):
            self.assertIs(judge_rows(nowhere, 4, tuple(sorted([(-1, -1), (0, 0), row]))), right)
        self.assertIs(judge_rows(ALONE, 6, ((0,), (6,))), False)
        self.assertIs(judge_rows(ALONE, 6, ((-1,), (0,))), True)
        self.assertIs(judge_rows(ALONE, 7, ((0,), (1,))), True)
        self.assertIs(judge_rows(ALONE, 6, ((0,), (1,))), False)
        self.assertIs(judge_rows(ALONE, 6, ()), False)

    def test_just_one_of_both(self):
        for machine in random_machines(336, 100):
            for c in (1, 7):
                paper, log = answer_of(row_paper, machine, c), answer_of(first_log, machine, c)
                self.assertEqual(isinstance(paper, str), isinstance(log, tuple) or log == "TooLarge")
                if isinstance(paper, tuple):
                    self.assertIs(judge_rows(machine, c, paper), True)
                    self.assertTrue(all(fare_of(machine, known) < c for known in logs_up_to(machine[0], 4)))
                    for at in range(len(paper)):
                        self.assertIs(judge_rows(machine, c, paper[:at] + paper[at + 1:]), False)


class GreatestTest(unittest.TestCase):
    def test_the_example(self):
        self.assertEqual(greatest_fare(ALONE), 5)

    def test_against_the_fares(self):
        found = {"Missing": 0, "int": 0, "choices": 0}
        for machine in free_machines(340, 300) + [HALF_USEFUL, STUCK, FORK]:
            limited = answer_of(is_limited, machine)
            fares = [known_fare(machine, log) for log in logs_up_to(machine[0], 4)]
            most = answer_of(greatest_fare, machine)
            if limited is not True:
                self.assertEqual(most, "TooLarge" if limited == "TooLarge" else "Missing")
            elif max(fares) == NONE:
                self.assertEqual(most, "Missing")
            else:
                # No short log costs more, and one costs just this.
                self.assertGreaterEqual(most, max(fares))
                self.assertEqual(fare_of(machine, first_log(machine, most)) if most else max(fares), most, machine)
                self.assertEqual(answer_of(first_log, machine, most + 1), "Missing")
                self.assertIs(judge_rows(machine, most + 1, row_paper(machine, most + 1)), True)
                found["choices"] += any(len(row) > 1 for rows in machine[2] for row in rows)
            found["Missing" if most == "Missing" else "int"] += 1
        self.assertGreater(min(found.values()), 20, found)

    def test_machines_that_are_not_limited(self):
        for machine in (COUNTER, SINGLE, STUCK, (("a",), (NONE,), ((((0, 3),),),), (0,))):
            with self.assertRaises(Missing):
                greatest_fare(machine)

    def test_free_machines(self):
        self.assertEqual(greatest_fare((("a",), (0,), ((((0, 0),),),), (0,))), 0)
        self.assertEqual(greatest_fare((("a",), (99,), ((((0, 0),),),), (99,))), 198)

    def test_stairs(self):
        for steps in (1, 3, 7):
            for fare in (0, 1, 50, 99):
                self.assertEqual(greatest_fare(stairs(steps, fare)), steps * fare)

    def test_it_is_too_large_just_if_the_row_paper_is(self):
        told = {"int": 0, "TooLarge": 0}
        source = random.Random(341)
        for machine in free_machines(342, 120) + [stairs(7, 99)]:
            most = answer_of(greatest_fare, machine)
            if not isinstance(most, int):
                continue
            rows = len(row_paper(machine, most + 1))
            for limit in (rows - 1, rows, source.randrange(1, rows + 5), 1):
                if limit < 1:
                    continue
                with mock.patch.object(greatest, "MAX_ROWS", limit):
                    answer = answer_of(greatest_fare, machine)
                    self.assertEqual(answer, most if rows <= limit else "TooLarge", (machine, limit))
                    told[type(answer).__name__ if isinstance(answer, int) else answer] += 1
        self.assertGreater(min(told.values()), 30, told)

    def test_large_machines(self):
        source = random.Random(343)
        told = 0
        for _ in range(60):
            machine = random_machine(source, 8, source.choice([1, 2]), source.choice([0.1, 0.2]), 1)
            machine = (machine[0], (0,) * 8, machine[2], tuple([source.randrange(100) for _ in range(8)]))
            most = answer_of(greatest_fare, machine)
            if isinstance(most, int):
                logs = [tuple(source.choices(machine[0], k=length)) for length in (0, 1, 2, 3, 5, 8, 20, 90)]
                self.assertTrue(all(fare_of(machine, log) <= most for log in logs))
                told += 1
        self.assertGreater(told, 20)
