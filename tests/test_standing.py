"""Tests of faremachines.standing: machines that stay limited whatever few moves are closed ([11.4])."""

import random
import unittest
from unittest import mock

from faremachines import limits
from faremachines.closings import closed_machine, moves_of
from faremachines.errors import NotAllowed, TooLarge
from faremachines.limits import closed_paper, is_limited
from faremachines.standing import MAX_CLOSED_SETS, MAX_STOOD, first_unlimited, judge_standing, standing_paper
from tests import closed
from tests.samples import COUNTER, FORK, LETTERS, NONE, SINGLE, STUCK, answer_of, random_machines
from tests.test_limits import ALONE, free_machines

# With one of the free turns closed, the other one is left; with both closed, each letter costs 1.
THREE = (("a",), (0, 0, 0), ((((0, 0),),), (((1, 0),),), (((2, 1),),)), (0, 0, 0))
TWIN = (("a",), (0, NONE), ((((0, 1), (1, 0)),), (((1, 0),),)), (0, 0))

MACHINES = [machine for machine in random_machines(820, 60, 2, 2) + free_machines(821, 80) if len(moves_of(machine)) <= 9]
MACHINES += [THREE, TWIN, COUNTER, ALONE, STUCK, SINGLE]


def full(letters, states, free=0):
    """Return a machine with all moves by so many letters."""
    row = tuple([(state, free) for state in range(states)])
    return LETTERS[:letters], (0,) * states, ((row,) * letters,) * states, (0,) * states


def known_outcome(machine, d):
    """Return the first closings with which a machine is not limited, `Missing`, or `TooLarge`."""
    for closings in closed.sets(machine, d):
        limited = answer_of(is_limited, closed.closed(machine, closings))
        if limited is not True:
            return closings if limited is False else limited
    return "Missing"


def changed_papers(paper):
    """Return a list of papers with a pair left out, twice, or exchanged, or with a table less or more."""
    found = []
    for at, (closings, tables) in enumerate(paper):
        found += [paper[:at] + paper[at + 1:], paper[:at] + (paper[at],) + paper[at:]]
        if at:
            found.append(paper[:at - 1] + (paper[at], paper[at - 1]) + paper[at + 1:])
            found.append(paper[:at] + ((paper[at - 1][0], tables),) + paper[at + 1:])
            found.append(paper[:at] + ((closings, paper[at - 1][1]),) + paper[at + 1:])
        for k, table in enumerate(tables):
            for others in (tables[:k] + tables[k + 1:], tables[:k] + (table,) + tables[k:]):
                found.append(paper[:at] + ((closings, others),) + paper[at + 1:])
            other = ((max(table[0][0] - 1, 0),) + table[0][1:],) + table[1:]
            for others in (tables[:k] + (other,) + tables[k + 1:], tuple(sorted(set(tables + (other,))))):
                found.append(paper[:at] + ((closings, others),) + paper[at + 1:])
        found.append(paper[:at] + ((closings[::-1] if len(closings) > 1 else closings + ((0, "a", 9),), tables),) + paper[at + 1:])
    return found


class StandingTest(unittest.TestCase):
    def test_against_each_of_the_closings(self):
        stood = {}
        for machine in MACHINES:
            for d in (0, 1, 2):
                outcome = known_outcome(machine, d)
                self.assertEqual(answer_of(first_unlimited, machine, d), outcome, (machine, d))
                paper = answer_of(standing_paper, machine, d)
                if outcome != "Missing":
                    self.assertEqual(paper, "TooLarge" if outcome == "TooLarge" else "Missing")
                else:
                    expected = [(closings, closed_paper(closed.closed(machine, closings))) for closings in closed.sets(machine, d)]
                    self.assertEqual(paper, tuple(expected))
                    self.assertTrue(closed.is_standing(machine, d, paper))
                    self.assertIs(judge_standing(machine, d, paper), True)
                kind = outcome if isinstance(outcome, str) else len(outcome)
                stood[(d, kind)] = stood.get((d, kind), 0) + 1
        for told in ((0, 0), (0, "Missing"), (1, 1), (1, "Missing"), (2, 2), (2, "Missing")):
            self.assertGreater(stood.get(told, 0), 2, stood)

    def test_machines_that_stand_none_one_or_two(self):
        for machine, outcomes in (
            (SINGLE, [(), (), ()]), (TWIN, ["Missing", ((0, "a", 1),), ((0, "a", 1),)]),
            (THREE, ["Missing", "Missing", ((0, "a", 0), (1, "a", 1))]), (ALONE, ["Missing"] * 3), (STUCK, ["Missing"] * 3),
        ):
            self.assertEqual([answer_of(first_unlimited, machine, d) for d in (0, 1, 2)], outcomes)

    def test_it_is_limited_with_each_closings_that_it_stands(self):
        for machine in MACHINES:
            if answer_of(first_unlimited, machine, 1) == "Missing":
                for move in moves_of(machine):
                    self.assertIs(is_limited(closed_machine(machine, (move,))), True)

    def test_numbers_of_closings(self):
        self.assertEqual((MAX_STOOD, MAX_CLOSED_SETS), (2, 100))
        for d in (-1, 3, 99):
            for machine in (TWIN, full(4, 8)):
                for function in (first_unlimited, standing_paper):
                    with self.assertRaises(NotAllowed):
                        function(machine, d)
                with self.assertRaises(NotAllowed):
                    judge_standing(machine, d, ())

    def test_just_100_closings_and_more(self):
        # 99 moves: all those of 4 letters over 5 states, but one; they are free, so that it stands one of them closed.
        letters, firsts, moves, lasts = full(4, 5)
        fewer = (letters, firsts, moves[:4] + ((moves[4][0][:4],) + moves[4][1:],), lasts)
        self.assertEqual([len(moves_of(machine)) for machine in (full(4, 5), fewer)], [100, 99])
        for machine, d, large in ((fewer, 1, False), (full(4, 5), 1, True), (fewer, 2, True), (full(4, 5), 0, False), (full(4, 8), 2, True)):
            answers = [answer_of(function, machine, d) for function in (first_unlimited, standing_paper)]
            self.assertEqual("TooLarge" in answers, large, (len(moves_of(machine)), d))
            if not large:
                self.assertEqual(answers[0], "Missing")
                self.assertEqual(len(answers[1]), 1 + d * 99)
                self.assertIs(judge_standing(machine, d, answers[1]), True)
        # 13 moves and 14: 92 closings of at most two of them, or 106.
        for many, large in ((13, False), (14, True)):
            rows = [tuple([(state, 0) for state in range(4)])] * 3 + [tuple([(state, 0) for state in range(many - 12)])]
            machine = (("a",), (0,) * 4, tuple([(row,) for row in rows]), (0,) * 4)
            paper = answer_of(standing_paper, machine, 2)
            self.assertEqual(answer_of(first_unlimited, machine, 2), "TooLarge" if large else "Missing")
            self.assertEqual(len(paper) if not large else paper, "TooLarge" if large else 92)
        # The judge judges nevertheless.
        machine = full(1, 4)
        pairs = tuple([(closings, closed_paper(closed_machine(machine, closings))) for closings in closed.sets(machine, 2)])
        self.assertEqual(len(pairs), 137)
        self.assertIs(judge_standing(machine, 2, pairs[:-1]), False)
        self.assertIs(judge_standing(machine, 1, pairs[:17]), True)
        with self.assertRaises(TooLarge):
            standing_paper(machine, 2)

    def test_too_many_tables(self):
        told = {"TooLarge": 0, "other": 0}
        for machine in MACHINES:
            for most in (1, 2, 4):
                with mock.patch.object(limits, "MAX_TABLES", most):
                    for d in (0, 1, 2):
                        outcome = known_outcome(machine, d)
                        self.assertEqual(answer_of(first_unlimited, machine, d), outcome)
                        paper = answer_of(standing_paper, machine, d)
                        if outcome != "Missing":
                            self.assertEqual(paper, "TooLarge" if outcome == "TooLarge" else "Missing")
                        told["TooLarge" if outcome == "TooLarge" else "other"] += 1
        self.assertGreater(min(told.values()), 100, told)


class JudgeTest(unittest.TestCase):
    def test_the_example(self):
        self.assertIs(judge_standing(TWIN, 0, standing_paper(TWIN, 0)), True)
        self.assertEqual(first_unlimited(TWIN, 1), ((0, "a", 1),))

    def test_papers_with_one_thing_changed(self):
        source = random.Random(822)
        judged = {True: 0, False: 0}
        for machine in MACHINES:
            for d in (0, 1, 2):
                paper = answer_of(standing_paper, machine, d)
                if isinstance(paper, str) or sum([len(tables) for _, tables in paper]) > 120:
                    continue
                papers = changed_papers(paper)
                for changed in [paper, ()] + source.sample(papers, min(len(papers), 12)):
                    right = closed.is_standing(machine, d, changed)
                    self.assertIs(judge_standing(machine, d, changed), right, (machine, d, changed))
                    judged[right] += 1
                for other in (0, 1, 2):
                    self.assertIs(judge_standing(machine, other, paper), other == d or len(moves_of(machine)) < min(other, d) + 1)
        self.assertGreater(min(judged.values()), 50, judged)

    def test_papers_of_machines_that_do_not_stand(self):
        for machine in (SINGLE, COUNTER, FORK):
            if answer_of(first_unlimited, machine, 0) == ():
                for tables in ((), (((0,) * len(machine[1]),) * len(machine[1]),)):
                    self.assertIs(judge_standing(machine, 0, (((), tables),)), False)
