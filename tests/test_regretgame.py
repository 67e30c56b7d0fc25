"""Tests of faremachines.regretgame ([4.5], [4.6], [4.7], [4.9])."""

import random
import unittest
from unittest import mock

from faremachines import regretgame
from faremachines.errors import BadPaper, Missing, NotAllowed, TooLarge
from faremachines.regretgame import first_positions, judge_walker, least_regret, next_position, walker_of, walker_paper
from faremachines.walkers import check_walker, judge_upper, regret, upper_paper
from tests import games
from tests.samples import COUNTER, FORK, FORK_WALKER, HALF_USEFUL, NONE, PLAIN, STUCK, answer_of, logs_up_to
from tests.samples import random_machine, random_machines, variants

PAPER = [((int, [(int, int)]), [int])]
FORK_PAPER = (((0, ((0, 0),)), (2, 0)), ((2, ((1, 0), (2, 0))), (3, 3)), ((3, ((3, 2),)), (3, 3)))

# By a, both states go round, for 1 and for 2: the gaps grow without end on one side.
APART = (("a",), (0, 0), ((((0, 1),),), (((1, 2),),)), (0, 0))
# Each state is the dearest one by one letter, and no move leads to another one.
WIDE = (
    ("a", "b", "c"),
    (0, 0, 0),
    (
        (((0, 8),), ((0, 9),), ((0, 17),)), (((1, 9),), ((1, 18),), ((1, 8),)), (((2, 18),), ((2, 8),), ((2, 9),)),
    ),
    (0, 0, 0),
)


class PositionsTest(unittest.TestCase):
    def test_first_positions(self):
        self.assertEqual(first_positions(PLAIN), [(0, ((0, 0), (1, -2))), (1, ((0, 2), (1, 0)))])
        # State 1 is not alive: the walker may begin there, but it stands in no row.
        self.assertEqual(first_positions(HALF_USEFUL), [(0, ((0, 0),)), (1, ((0, 1),))])
        self.assertEqual(first_positions(STUCK), [(0, ())])
        self.assertEqual(first_positions((("a",), (NONE,), (((),),), (0,))), [])
        for machine in random_machines(210, 200):
            self.assertEqual(first_positions(machine), games.firsts_of(machine))

    def test_next_positions(self):
        position = (0, ((0, 0), (1, -2)))
        self.assertEqual(next_position(PLAIN, position, "a", 0), (0, ((0, 0), (1, 0))))
        self.assertEqual(next_position(PLAIN, position, "b", 1), (1, ((0, -1), (1, 0))))
        # A row that is empty stays so.
        self.assertEqual(next_position(PLAIN, (1, ()), "b", 1), (1, ()))
        # State 1 leads to itself alone, and is not alive: what the walker pays there counts.
        self.assertEqual(next_position(HALF_USEFUL, (1, ((0, 5),)), "a", 1), (1, ((0, 7),)))
        self.assertEqual(next_position(HALF_USEFUL, (0, ((0, 5),)), "b", 1), (1, ()))

    def test_moves_and_letters_that_are_none(self):
        for letter, state in (("a", 1), ("b", 0), ("c", 0), ("", 0), ("a", 2), ("a", -1), ("b", -1), ("a", 99)):
            with self.assertRaises(NotAllowed):
                next_position(PLAIN, (0, ((0, 0), (1, -2))), letter, state)

    def test_gaps_are_those_of_the_definition(self):
        for machine in random_machines(211, 60):
            for log in logs_up_to(machine[0], 3):
                for way in games.ways_along(machine, log):
                    position = dict(first_positions(machine))[way[0]]
                    position = (way[0], position)
                    for letter, state in zip(log, way[1:]):
                        position = next_position(machine, position, letter, state)
                    self.assertEqual(position, (way[-1], games.gaps_behind(machine, log, way)))


class JudgeTest(unittest.TestCase):
    def test_the_paper_of_the_example(self):
        self.assertIs(judge_walker(FORK, 2, FORK_PAPER), True)
        self.assertIs(judge_walker(FORK, 1, FORK_PAPER), False)
        self.assertIs(judge_walker(FORK, 2, ()), False)
        for paper in variants(PAPER, FORK_PAPER):
            self.assertIs(judge_walker(FORK, 2, paper), games.is_walker_paper(FORK, 2, paper), paper)

    def test_needless_positions_and_greater_gaps(self):
        more = (((0, ((0, 1),)), (2, 0)), ((2, ((1, 1), (2, 1))), (3, 3)), ((3, ((3, 3),)), (3, 3)))
        self.assertIs(judge_walker(FORK, 3, more), True)
        self.assertIs(judge_walker(FORK, 2, more), False)
        # What is needless has to be right, too.
        for told, right in (
            (((1, ((1, 2),)), (3, 3)), True), (((1, ((1, 3),)), (3, 3)), False), (((1, ((1, -9),)), (3, 3)), True),
            (((1, ((1, 2),)), (NONE, 3)), False), (((1, ((0, 0),)), (3, 3)), False), (((3, ((1, 0),)), (3, 3)), True),
            (((1, ()), (NONE, NONE)), True), (((1, ()), (3, 1)), True), (((1, ()), (3, 4)), False),
            (((1, ()), (3, -2)), False), (((1, ()), (3,)), False), (((1, ()), (3, 3, 3)), False),
            (((4, ()), (NONE, NONE)), False), (((-1, ()), (NONE, NONE)), False),
        ):
            paper = tuple(sorted(FORK_PAPER + (told,)))
            self.assertIs(games.is_walker_paper(FORK, 2, paper), right, told)
            self.assertIs(judge_walker(FORK, 2, paper), right, told)

    def test_states_that_are_not_alive_stand_in_no_row(self):
        machine = (("a",), (0, 0), ((((0, 0), (1, 0)),), (((1, 0),),)), (0, NONE))
        self.assertIs(judge_walker(machine, 0, (((0, ((0, 0),)), (0,)),)), True)
        self.assertIs(judge_walker(machine, 0, (((0, ((0, 0), (1, 0))), (0,)),)), False)
        self.assertIs(judge_walker(machine, 0, (((0, ((0, 0), (0, 0))), (0,)),)), False)

    def test_machines_in_which_no_log_can_be_gone(self):
        self.assertIs(judge_walker(STUCK, 0, (((0, ()), (NONE,)),)), True)
        self.assertIs(judge_walker(STUCK, 0, (((1, ()), (NONE,)),)), False)
        self.assertIs(judge_walker((("a",), (NONE,), (((),),), (0,)), 0, (((0, ()), (NONE,)),)), False)

    def test_papers_with_one_thing_changed(self):
        source = random.Random(212)
        judged = {True: 0, False: 0}
        for machine in random_machines(213, 250):
            for r, cap in ((0, 0), (2, 3), (9, 9)):
                paper = answer_of(walker_paper, machine, r, cap)
                if not isinstance(paper, tuple):
                    continue
                papers = variants(PAPER, paper)
                papers = [paper] + source.sample(papers, min(len(papers), 15))
                papers += [tuple(sorted(changed)) for changed in papers]
                papers += [changed for other in papers[1:4] for changed in variants(PAPER, other)[:20]]
                for changed in papers:
                    right = games.is_walker_paper(machine, r, changed)
                    self.assertIs(judge_walker(machine, r, changed), right, (machine, r, changed))
                    judged[right] += 1
        self.assertGreater(min(judged.values()), 500, judged)


class CapTest(unittest.TestCase):
    def test_the_example(self):
        for cap in (0, 1, 5, 60):
            self.assertEqual(least_regret(FORK, cap), 2)
            self.assertEqual(answer_of(walker_paper, FORK, 1, cap), "Missing")
            self.assertTrue(games.is_walker_paper(FORK, 2, walker_paper(FORK, 2, cap)))

    def test_numbers_out_of_range(self):
        for r, cap in ((-1, 0), (61, 0), (0, -1), (0, 61), (-1, 61), (10 ** 9, 5)):
            # Ahead of what else is due: too many positions, or no walker that wins.
            for machine in (FORK, STUCK, WIDE, COUNTER):
                with self.assertRaises(NotAllowed):
                    walker_paper(machine, r, cap)
        for cap in (-1, 61, 10 ** 9):
            for machine in (FORK, WIDE, COUNTER):
                with self.assertRaises(NotAllowed):
                    least_regret(machine, cap)
        for r in (0, 60):
            for cap in (0, 60):
                self.assertTrue(judge_walker(STUCK, r, walker_paper(STUCK, r, cap)))

    def test_against_the_definition(self):
        found = {"paper": 0, "Missing": 0}
        for machine in random_machines(214, 220, 3, 2):
            for r, cap in ((0, 0), (0, 4), (3, 1), (8, 20)):
                wins = games.outcome(machine, r, cap, 150)
                if wins == "TooLarge":
                    continue
                paper = answer_of(walker_paper, machine, r, cap)
                self.assertEqual(paper != "Missing", wins, (machine, r, cap))
                found["paper" if wins else "Missing"] += 1
                if wins:
                    self.assertTrue(games.is_walker_paper(machine, r, paper), (machine, r, cap))
                    self.assertTrue(judge_walker(machine, r, paper))
        self.assertGreater(min(found.values()), 60, found)

    def test_the_least_regret(self):
        told = []
        for machine in random_machines(215, 60, 3, 2) + [APART, FORK, PLAIN]:
            for cap in (0, 3, 60):
                least = answer_of(least_regret, machine, cap)
                told.append(least)
                last = least if isinstance(least, int) else 60
                kinds = []
                for r in sorted(set([0, 1, last // 2, max(last - 1, 0), last])):
                    paper = answer_of(walker_paper, machine, r, cap)
                    kinds.append("paper" if isinstance(paper, tuple) else paper)
                    if isinstance(least, int):
                        self.assertEqual(kinds[-1], "Missing" if r < least else "paper")
                self.assertIn(kinds[-1], ("paper", least))
                # With a greater regret the walker never wins less, and no fewer positions come up.
                order = [["Missing", "paper", "TooLarge"].index(kind) for kind in kinds]
                self.assertEqual(order, sorted(order))
                if not isinstance(least, int):
                    self.assertNotIn("paper", kinds)
        self.assertGreater(len(set(told)), 5)

    def test_greater_caps(self):
        for machine in random_machines(216, 40, 3, 2) + [FORK]:
            leasts = [answer_of(least_regret, machine, cap) for cap in (0, 1, 2, 5, 20, 60)]
            known = [61 if least == "Missing" else least for least in leasts if least != "TooLarge"]
            self.assertEqual(known, sorted(known, reverse=True), machine)

    def test_gaps_that_fall_without_end_are_lifted(self):
        # From state 0 the gap of the other one falls by 1 with each letter, from state 1 it grows.
        for cap in (0, 7, 60):
            self.assertEqual(least_regret(APART, cap), 0)
            paper = walker_paper(APART, 0, cap)
            self.assertIs(judge_walker(APART, 0, paper), True)
            self.assertGreaterEqual(min([gap for (_, row), _ in paper for _, gap in row]), -cap)

    def test_too_many_positions(self):
        for r, cap, large in ((0, 0, False), (60, 60, True), (60, 8, True), (2, 2, False)):
            self.assertEqual(answer_of(walker_paper, WIDE, r, cap), "TooLarge" if large else "Missing", (r, cap))
        # None of the lesser regrets is enough, and for a greater one too many positions come up.
        with self.assertRaises(TooLarge):
            least_regret(WIDE, 60)

    def test_more_positions_than_there_may_be(self):
        told = {True: 0, False: 0}
        for machine in random_machines(219, 60, 3, 2):
            for r, cap in ((0, 0), (5, 2), (9, 9)):
                for most in (1, 3, 9):
                    with mock.patch.object(regretgame, "MAX_POSITIONS", most):
                        large = games.outcome(machine, r, cap, most) == "TooLarge"
                        self.assertEqual(answer_of(walker_paper, machine, r, cap) == "TooLarge", large, (machine, r, cap))
                        told[large] += 1
        self.assertGreater(min(told.values()), 50, told)

    def test_no_first_fare(self):
        machine = (("a",), (NONE, NONE), ((((0, 0),),), ((),)), (0, 0))
        for call in ((walker_paper, machine, 0, 0), (least_regret, machine, 60)):
            with self.assertRaises(Missing):
                call[0](*call[1:])

    def test_larger_machines(self):
        source = random.Random(217)
        kinds = {"int": 0, "str": 0}
        for _ in range(20):
            machine = random_machine(source, source.choice([5, 8]), source.choice([1, 2]), 0.5)
            least = answer_of(least_regret, machine, 8)
            kinds[type(least).__name__] += 1
            if isinstance(least, int):
                self.assertIs(judge_walker(machine, least, walker_paper(machine, least, 8)), True)
                self.assertIn(answer_of(walker_paper, machine, least - 1, 8), ("Missing", "NotAllowed"))
        self.assertGreater(min(kinds.values()), 3, kinds)


class WalkerOfTest(unittest.TestCase):
    def test_the_example(self):
        self.assertEqual(walker_of(FORK, 2, FORK_PAPER), FORK_WALKER)

    def test_it_keeps_the_regret(self):
        made = 0
        for machine in random_machines(218, 250):
            least = answer_of(least_regret, machine, 10)
            if not isinstance(least, int):
                continue
            paper = walker_paper(machine, least, 10)
            if len(paper) > 16:
                continue
            walker = walker_of(machine, least, paper)
            check_walker(machine, walker)
            self.assertLessEqual(regret(machine, walker), least)
            self.assertTrue(judge_upper(machine, walker, least, upper_paper(machine, walker, least)))
            made += 1
        self.assertGreater(made, 100)

    def test_it_begins_where_a_first_position_is_covered(self):
        paper = (((1, ()), (3, 3)),) + FORK_PAPER[1:]
        with self.assertRaises(BadPaper):
            walker_of(FORK, 2, paper)
        machine = (("a",), (NONE, 0), ((((1, 2),),), (((0, 0),),)), (0, 0))
        paper = (((0, ((0, 0),)), (1,)), ((1, ((1, 0),)), (0,)))
        walker = walker_of(machine, 0, paper)
        check_walker(machine, walker)
        self.assertEqual(regret(machine, walker), 0)

    def test_papers_that_are_not_right(self):
        for paper in ((), FORK_PAPER[:2], FORK_PAPER[1:], FORK_PAPER[::-1], FORK_PAPER + FORK_PAPER[2:]):
            with self.assertRaises(BadPaper):
                walker_of(FORK, 2, paper)
        with self.assertRaises(BadPaper):
            walker_of(FORK, 1, FORK_PAPER)

    def test_papers_of_more_than_16_positions(self):
        for many, large in ((13, False), (14, True), (30, True)):
            needless = tuple([((1, ((0, -gap),)), (3, 3)) for gap in range(100 + many, 100, -1)])
            paper = tuple(sorted(FORK_PAPER + needless))
            # By a and b state 0 leads to 1, 2 and 0: rows that are covered by no position.
            self.assertIs(judge_walker(FORK, 2, paper), False)
            with self.assertRaises(BadPaper):
                walker_of(FORK, 2, paper)
            needless = tuple([((3, ((3, 2 - gap),)), (3, 3)) for gap in range(1, many + 1)])
            paper = tuple(sorted(FORK_PAPER + needless))
            self.assertIs(judge_walker(FORK, 2, paper), True)
            if large:
                with self.assertRaises(TooLarge):
                    walker_of(FORK, 2, paper)
            else:
                self.assertEqual(regret(FORK, walker_of(FORK, 2, paper)), 2)
