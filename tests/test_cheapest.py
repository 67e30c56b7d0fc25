"""Tests of faremachines.cheapest ([3.3], [3.4])."""

import random
import unittest

from faremachines.cheapest import cheapest_ways, judge, paper_of
from faremachines.errors import NotAllowed
from faremachines.machines import best_way, count_ways, fare_by, fare_of
from tests.samples import FORK, NONE, PLAIN, STUCK, ahead, logs_up_to, random_machine, random_machines, rows_along
from tests.samples import step_fare, ways_of

LOG = ("a", "b", "a")

# All moves are free but those to the same state: many ways cost the same.
FREE = (("a", "b"), (0, 0), ((((0, 1), (1, 0)),) * 2, (((0, 0), (1, 1)),) * 2), (0, 0))


def beginnings_of(machine, log):
    """Return the list of pairs of a beginning, of any number of states, and of what it costs so far."""
    found = []
    for size in range(len(log) + 1):
        rows = rows_along(machine, log[:size])
        found += [(row, machine[1][row[0]] + total) for row, total in rows if machine[1][row[0]] != NONE]
    return found


def is_bounded(machine, log, paper):
    """Tell whether the rows of a paper are as the definition wants them."""
    if len(paper) != len(log) + 1 or paper[-1] != machine[3]:
        return False
    size = range(len(machine[1]))
    if any(len(row) != len(size) or min(row) < NONE for row in paper):
        return False
    for letter, row, after in zip(log, paper, paper[1:]):
        for state in size:
            fares = [(step_fare(machine, state, letter, t), after[t]) for t in size]
            sums = [fare + bound for fare, bound in fares if fare != NONE and bound != NONE]
            if (row[state] == NONE) != (not sums) or any(row[state] > total for total in sums):
                return False
    return True


def is_right(machine, log, many, ways, paper):
    """Tell whether a paper is right for a list of at most so many ways, as the definition says it."""
    if len(ways) > many or ways != sorted(set(ways)) or not set(ways) <= set(ways_of(machine, log)):
        return False
    if not is_bounded(machine, log, paper):
        return False
    for beginning, cost in beginnings_of(machine, log):
        size = len(beginning)
        bound = paper[size - 1][beginning[-1]]
        begun = [way for _, way in ways if way[:size] == beginning]
        shorter = size == 1 or any(way[:size - 1] == beginning[:-1] for _, way in ways)
        if begun or not shorter or bound == NONE:
            continue
        if len(ways) < many:
            return False
        last_fare, last_way = ways[-1]
        total = cost + bound
        if not (total > last_fare or (total == last_fare and beginning > last_way)):
            return False
    return True


def lowered(machine, log, source):
    """Return a paper with integers that are at most those of the best paper, as they are or lower at random."""
    rows = [machine[3]]
    size = range(len(machine[1]))
    for letter in reversed(log):
        row = []
        for state in size:
            fares = [(step_fare(machine, state, letter, t), rows[0][t]) for t in size]
            sums = [fare + bound for fare, bound in fares if fare != NONE and bound != NONE]
            row.append(max(0, min(sums) - source.choice([0, 0, 0, 1, 2, 9])) if sums else NONE)
        rows.insert(0, tuple(row))
    return tuple(rows)


def changed_papers(paper):
    """Return the list of papers with one integer, or one row, changed."""
    found = []
    for at, row in enumerate(paper):
        for state, bound in enumerate(row):
            for other in (bound - 1, bound + 1, NONE, 0, -2):
                if other != bound:
                    found.append(paper[:at] + (row[:state] + (other,) + row[state + 1:],) + paper[at + 1:])
        found.append(paper[:at] + paper[at + 1:])
        found.append(paper[:at] + (row,) + paper[at:])
        found.append(paper[:at] + (row + (0,),) + paper[at + 1:])
        found.append(paper[:at] + (row[1:],) + paper[at + 1:])
    return found


def changed_lists(ways, machine, log):
    """Return the list of lists of ways with one thing changed."""
    found = []
    for at, (fare, way) in enumerate(ways):
        found.append(ways[:at] + ways[at + 1:])
        found.append(ways[:at] + [(fare, way)] + ways[at:])
        found += [ways[:at] + [(other, way)] + ways[at + 1:] for other in (fare - 1, fare + 1, NONE, 0) if other != fare]
        found.append(ways[:at] + [(fare, way[:-1])] + ways[at + 1:])
        found.append(ways[:at] + [(fare, way + (way[-1],))] + ways[at + 1:])
        for state in range(-1, len(machine[1]) + 1):
            other = way[:1] + (state,) + way[2:]
            if len(way) > 1 and other != way:
                found.append(ways[:at] + [(fare, other)] + ways[at + 1:])
    for at in range(len(ways) - 1):
        found.append(ways[:at] + [ways[at + 1], ways[at]] + ways[at + 2:])
    for way in ways_of(machine, log):
        found.append(ways + [way])
        found.append(ways[:-1] + [way])
    return [other for other in found if other != ways]


class CheapestWaysTest(unittest.TestCase):
    def test_the_example(self):
        ways = cheapest_ways(PLAIN, LOG, 3)
        self.assertEqual(ways, [(9, (0, 0, 1, 1)), (13, (1, 1, 1, 1))])
        self.assertIs(judge(PLAIN, LOG, 3, ways, paper_of(PLAIN, LOG)), True)

    def test_against_all_ways(self):
        for machine in random_machines(50, 60, states=3):
            for log in logs_up_to(machine[0], 4):
                known = ways_of(machine, log)
                for many in (1, 2, 5, 20):
                    ways = cheapest_ways(machine, log, many)
                    self.assertEqual(ways, known[:many], (machine, log))
                    self.assertIs(judge(machine, log, many, ways, paper_of(machine, log)), True)

    def test_ways_with_the_same_fare(self):
        known = ways_of(FREE, ("a", "b", "a", "b"))
        self.assertEqual(len(known), 32)
        self.assertEqual([fare for fare, _ in known[:12]], [0] * 2 + [1] * 8 + [2] * 2)
        for many in range(1, 21):
            ways = cheapest_ways(FREE, ("a", "b", "a", "b"), many)
            self.assertEqual(ways, known[:many])
            self.assertIs(judge(FREE, ("a", "b", "a", "b"), many, ways, paper_of(FREE, ("a", "b", "a", "b"))), True)
        free = (("a",), (0, 0, 0), ((((0, 0), (1, 0), (2, 0)),),) * 3, (0, 0, 0))
        self.assertEqual(cheapest_ways(free, ("a",) * 3, 20), ways_of(free, ("a",) * 3)[:20])

    def test_fewer_ways_than_are_asked_for(self):
        ways = ways_of(PLAIN, LOG)
        self.assertEqual(len(ways), 2)
        for many in (2, 3, 20):
            self.assertEqual(cheapest_ways(PLAIN, LOG, many), ways)
        self.assertEqual(cheapest_ways(PLAIN, LOG, 1), ways[:1])

    def test_logs_that_cannot_be_gone(self):
        for log in logs_up_to(("a",), 3):
            self.assertEqual(cheapest_ways(STUCK, log, 5), [])
            self.assertIs(judge(STUCK, log, 5, [], paper_of(STUCK, log)), True)
            self.assertIs(judge(STUCK, log, 1, [], paper_of(STUCK, log)), True)

    def test_the_empty_log(self):
        machine = (("a",), (5, NONE, 0, 3, 0), (((),),) * 5, (0, 0, 5, 1, NONE))
        self.assertEqual(cheapest_ways(machine, (), 20), [(4, (3,)), (5, (0,)), (5, (2,))])
        self.assertEqual(paper_of(machine, ()), ((0, 0, 5, 1, NONE),))

    def test_numbers_out_of_range(self):
        for many in (-1, 0, 21, 100):
            with self.assertRaises(NotAllowed):
                cheapest_ways(PLAIN, LOG, many)
            with self.assertRaises(NotAllowed):
                judge(PLAIN, LOG, many, [], ())
        for many in (1, 20):
            self.assertEqual(cheapest_ways(PLAIN, LOG, many), ways_of(PLAIN, LOG)[:many])

    def test_logs_that_are_none(self):
        for log in (("c",), ("a", "b", ""), ("a",) * 401):
            with self.assertRaises(NotAllowed):
                cheapest_ways(PLAIN, log, 2)
            with self.assertRaises(NotAllowed):
                paper_of(PLAIN, log)
            with self.assertRaises(NotAllowed):
                judge(PLAIN, log, 2, [], ())

    def test_long_logs(self):
        source = random.Random(51)
        for most in (9, 0):
            machine = random_machine(source, 8, 4, 0.7, most)
            log = tuple(source.choices(machine[0], k=400))
            ways = cheapest_ways(machine, log, 20)
            self.assertEqual(len(ways), 20)
            self.assertEqual(ways[0], (fare_of(machine, log), best_way(machine, log)))
            self.assertEqual(ways, sorted(set(ways)))
            self.assertEqual([fare for fare, _ in ways], [fare_by(machine, log, way) for _, way in ways])
            paper = paper_of(machine, log)
            for many in (1, 7, 20):
                self.assertEqual(cheapest_ways(machine, log, many), ways[:many])
                self.assertIs(judge(machine, log, many, ways[:many], paper), True)
            self.assertIs(judge(machine, log, 20, ways[:19], paper), False)
            self.assertIs(judge(machine, log, 19, ways[:18] + ways[19:], paper), False)

    def test_few_ways_of_a_long_log(self):
        log = ("a",) * 18
        rows = (("a",), (0, NONE), ((((0, 0), (1, 0)),), (((1, 0),),)), (NONE, 0))
        self.assertEqual(count_ways(rows, log), 18)
        known = [(0, (0,) * at + (1,) * (19 - at)) for at in range(18, 0, -1)]
        self.assertEqual(cheapest_ways(rows, log, 20), known)
        self.assertIs(judge(rows, log, 20, known, paper_of(rows, log)), True)
        self.assertIs(judge(rows, log, 18, known, paper_of(rows, log)), True)
        self.assertIs(judge(rows, log, 17, known, paper_of(rows, log)), False)

    def test_new_lists(self):
        found = cheapest_ways(PLAIN, LOG, 2)
        found.clear()
        self.assertEqual(len(cheapest_ways(PLAIN, LOG, 2)), 2)


class JudgeTest(unittest.TestCase):
    def test_the_paper_may_serve_any_number(self):
        for machine in random_machines(52, 40, states=3):
            for log in logs_up_to(machine[0], 3):
                paper = paper_of(machine, log)
                self.assertTrue(is_bounded(machine, log, paper))
                for many in (1, 2, 3, 20):
                    ways = ways_of(machine, log)[:many]
                    self.assertIs(judge(machine, log, many, ways, paper), True)
                    self.assertTrue(is_right(machine, log, many, ways, paper))

    def test_papers_with_one_thing_changed(self):
        judged = {True: 0, False: 0}
        for machine in random_machines(53, 25, states=3) + [FREE, PLAIN, FORK]:
            for log in (("a",), ("a", "a"), machine[0][::-1] + ("a",)):
                paper = paper_of(machine, log)
                for many in (1, 3):
                    ways = ways_of(machine, log)[:many]
                    for other in changed_papers(paper):
                        right = is_right(machine, log, many, ways, other)
                        self.assertIs(judge(machine, log, many, ways, other), right, (machine, log, many, other))
                        judged[right] += 1
        self.assertGreater(min(judged.values()), 100)

    def test_lists_with_one_thing_changed(self):
        judged = 0
        for machine in random_machines(54, 25, states=3) + [FREE, PLAIN, FORK]:
            for log in ((), ("a",), machine[0] + ("a",)):
                paper = paper_of(machine, log)
                for many in (1, 3, 20):
                    ways = ways_of(machine, log)[:many]
                    for other in changed_lists(ways, machine, log):
                        self.assertIs(judge(machine, log, many, other, paper), False, (machine, log, many, other))
                        self.assertFalse(is_right(machine, log, many, other, paper))
                        judged += 1
        self.assertGreater(judged, 500)

    def test_papers_with_lesser_integers(self):
        source = random.Random(55)
        judged = {True: 0, False: 0}
        for machine in random_machines(56, 60, states=3) + [FREE, PLAIN]:
            for log in (("a", "a"), machine[0] + ("a",)):
                for _ in range(8):
                    paper = lowered(machine, log, source)
                    self.assertTrue(is_bounded(machine, log, paper))
                    many = source.choice([1, 2, 3])
                    ways = ways_of(machine, log)[:many]
                    right = is_right(machine, log, many, ways, paper)
                    self.assertIs(judge(machine, log, many, ways, paper), right, (machine, log, many, paper))
                    judged[right] += 1
        self.assertGreater(min(judged.values()), 50)

    def test_no_paper_shows_another_list(self):
        source = random.Random(57)
        for machine in random_machines(58, 40, states=2):
            log = ("a", "a")
            known = ways_of(machine, log)
            for many in (1, 2, 5):
                for _ in range(10):
                    ways = sorted(source.sample(known, source.randrange(min(many, len(known)) + 1)))
                    paper = lowered(machine, log, source)
                    if judge(machine, log, many, ways, paper):
                        self.assertEqual(ways, known[:many])

    def test_a_beginning_with_the_same_sum(self):
        # Both ways cost 1; the list of one has the first one as a tuple.
        machine = (("a",), (0, 0), ((((0, 1),),), (((1, 1),),)), (0, 0))
        paper = paper_of(machine, ("a",))
        self.assertIs(judge(machine, ("a",), 1, [(1, (0, 0))], paper), True)
        self.assertIs(judge(machine, ("a",), 1, [(1, (1, 1))], paper), False)
        self.assertIs(judge(machine, ("a",), 2, [(1, (0, 0)), (1, (1, 1))], paper), True)
        self.assertIs(judge(machine, ("a",), 2, [(1, (1, 1)), (1, (0, 0))], paper), False)
        # With a bound that is too low, the other one may seem to be cheaper.
        self.assertIs(judge(machine, ("a",), 1, [(1, (0, 0))], ((1, 0), (0, 0))), False)
        self.assertIs(judge(machine, ("a",), 1, [(1, (0, 0))], ((0, 1), (0, 0))), True)

    def test_an_empty_list(self):
        self.assertIs(judge(PLAIN, LOG, 1, [], paper_of(PLAIN, LOG)), False)
        self.assertIs(judge(PLAIN, LOG, 20, [], paper_of(PLAIN, LOG)), False)
        self.assertIs(judge(STUCK, (), 1, [], ((NONE, 0),)), True)
        self.assertIs(judge(STUCK, (), 1, [], ((0, 0),)), False)
        self.assertIs(judge(STUCK, (), 1, [], ()), False)
        self.assertIs(judge(STUCK, ("a",), 1, [], ((NONE, 0), (NONE, 0))), True)
        self.assertIs(judge(STUCK, ("a",), 1, [], ((NONE, NONE), (NONE, 0))), False)
        self.assertIs(judge(STUCK, ("a",), 1, [], ((NONE, 1), (NONE, 0))), False)

    def test_rows_of_states_that_are_no_ways(self):
        for row in ((), (0,), (0, 0), (0, 0, 0, 0), (0, 0, 1, 5), (-1, -1, -1, -1), (0, 0, 1, 1, 1)):
            for fare in (NONE, 0, 9):
                self.assertIs(judge(PLAIN, LOG, 3, [(fare, row)], paper_of(PLAIN, LOG)), False)
                self.assertIs(judge(PLAIN, LOG, 1, [(fare, row)], paper_of(PLAIN, LOG)), False)
        self.assertIs(judge(STUCK, ("a",), 1, [(NONE, (0, 0))], paper_of(STUCK, ("a",))), False)

    def test_the_paper_has_the_fares_from_each_place(self):
        for machine in random_machines(59, 20, states=3):
            log = machine[0] * 2
            paper = paper_of(machine, log)
            self.assertEqual(paper, tuple([ahead(machine, log[at:]) for at in range(len(log) + 1)]))
