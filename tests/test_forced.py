"""Tests of faremachines.forced ([4.6], [4.8], [4.10])."""

import random
import unittest
from unittest import mock

from faremachines import forced as forced_file
from faremachines.errors import Missing, NotAllowed, TooLarge
from faremachines.forced import forced, forced_paper, judge_forced
from faremachines.regretgame import judge_walker, least_regret, walker_paper
from tests import games
from tests.samples import COUNTER, FORK, HALF_USEFUL, NONE, PLAIN, SINGLE, STUCK, answer_of, random_machine
from tests.samples import random_machines, variants

PAPER = [(int, [(int, int)], int, str)]
FORK_PAPER = (
    (0, ((0, 0),), 2, "a"),
    (1, ((1, 0), (2, 0)), 1, "b"), (2, ((1, 0), (2, 0)), 1, "a"),
    (3, ((3, 2),), 0, ""), (3, ((3, 3),), 0, ""),
)
# From 0 by a to 1 or 2; by b the walker is lost from 1, by c from 2.
LOST = (
    ("a", "b", "c"),
    (0, NONE, NONE, NONE),
    ((((1, 0), (2, 0)), (), ()), ((), (), ((3, 0),)), ((), ((3, 0),), ()), ((), (), ())),
    (0, NONE, NONE, 0),
)
NO_START = (("a",), (NONE, NONE), ((((0, 0),),), ((),)), (0, 0))


def dense(states, letters):
    """Return a machine with a move between all states by all letters, for fares that differ."""
    source = random.Random(5)
    return random_machine(source, states, letters, 1, 99)


class ForcedTest(unittest.TestCase):
    def test_the_example(self):
        self.assertEqual([forced(FORK, turns) for turns in range(9)], [0, 0] + [2] * 7)

    def test_against_the_definition(self):
        found = []
        for machine in random_machines(220, 150) + [PLAIN, FORK, COUNTER, HALF_USEFUL, STUCK, LOST]:
            firsts = games.firsts_of(machine)
            for turns in range(4):
                values = [games.value(machine, position, turns) for position in firsts]
                known = [number for number in values if number is not None]
                if not firsts:
                    self.assertEqual(answer_of(forced, machine, turns), "Missing")
                    continue
                self.assertEqual(forced(machine, turns), min(known, default=None), (machine, turns))
                found.append(forced(machine, turns))
        self.assertGreater(found.count(None), 10)
        self.assertGreater(len(set(found)), 8)

    def test_more_letters_never_force_less(self):
        for machine in random_machines(221, 120):
            values = [answer_of(forced, machine, turns) for turns in range(9)]
            values = [10 ** 6 if number is None else number for number in values if not isinstance(number, str)]
            self.assertEqual(values, sorted(values))
            for cap in (0, 9):
                least = answer_of(least_regret, machine, cap)
                if isinstance(least, int) and values:
                    self.assertLessEqual(values[-1], least)

    def test_where_the_walker_is_lost(self):
        self.assertEqual([forced(LOST, turns) for turns in range(4)], [0, 0, None, None])
        # Only the other start can end.
        machine = (("a",), (0, 5), ((((0, 0),),), (((1, 0),),)), (NONE, 0))
        self.assertEqual([forced(machine, turns) for turns in (0, 3)], [0, 0])
        machine = (("a",), (0, NONE, NONE), ((((1, 0), (2, 0)),), ((),), ((),)), (NONE, 0, NONE))
        self.assertEqual([forced(machine, turns) for turns in (0, 1, 8)], [0, 0, 0])

    def test_numbers_out_of_range(self):
        for machine in (FORK, NO_START, dense(8, 4)):
            for turns in (-1, 9, 10 ** 9):
                with self.assertRaises(NotAllowed):
                    forced(machine, turns)
                with self.assertRaises(NotAllowed):
                    forced_paper(machine, 0, turns)
            for r in (-1, -99):
                with self.assertRaises(NotAllowed):
                    forced_paper(machine, r, 8)

    def test_no_first_fare(self):
        for turns in (0, 8):
            with self.assertRaises(Missing):
                forced(NO_START, turns)
            with self.assertRaises(Missing):
                forced_paper(NO_START, 0, turns)

    def test_too_many_positions(self):
        # 8 positions, then 4 letters and 8 states from each: 264 behind one letter, about 8000 behind two.
        machine = dense(8, 4)
        self.assertIsInstance(forced(machine, 1), int)
        for turns in (2, 8):
            with self.assertRaises(TooLarge):
                forced(machine, turns)
            with self.assertRaises(TooLarge):
                forced_paper(machine, 10 ** 6, turns)

    def test_more_positions_than_there_may_be(self):
        told = {True: 0, False: 0}
        for machine in random_machines(227, 60) + [dense(3, 3)]:
            for turns in range(4):
                known = games.positions_within(machine, turns)
                for most in (1, 3, len(known) - 1, len(known)):
                    if known and most > 0:
                        with mock.patch.object(forced_file, "MAX_POSITIONS", most):
                            answers = [answer_of(forced, machine, turns), answer_of(forced_paper, machine, 9999, turns)]
                        large = len(known) > most
                        # The first positions are never too many.
                        if len(games.firsts_of(machine)) <= most:
                            self.assertEqual([answer == "TooLarge" for answer in answers], [large] * 2, (machine, turns))
                            told[large] += 1
        self.assertGreater(min(told.values()), 50, told)

    def test_just_so_many_positions(self):
        told = {"int": 0, "TooLarge": 0}
        for machine in (dense(3, 3), dense(4, 2), dense(2, 4)):
            for turns in range(9):
                known = games.positions_within(machine, turns)
                self.assertEqual(answer_of(forced, machine, turns) == "TooLarge", len(known) > 3000, (machine, turns))
                told["TooLarge" if len(known) > 3000 else "int"] += 1
                if len(known) > 3000:
                    break
        self.assertGreater(min(told.values()), 0)


class PaperTest(unittest.TestCase):
    def test_the_example(self):
        self.assertIs(judge_forced(FORK, 1, forced_paper(FORK, 1, 2)), True)
        self.assertIs(judge_forced(FORK, 2, forced_paper(FORK, 1, 2)), False)
        for turns in (2, 5, 8):
            with self.assertRaises(Missing):
                forced_paper(FORK, 2, turns)
        with self.assertRaises(Missing):
            forced_paper(FORK, 0, 1)

    def test_papers_just_for_less_than_is_forced(self):
        papers = 0
        for machine in random_machines(222, 200) + [LOST, FORK]:
            for turns in (0, 1, 3, 5):
                least = answer_of(forced, machine, turns)
                if isinstance(least, str):
                    self.assertEqual(answer_of(forced_paper, machine, 0, turns), least)
                    continue
                for r in (0, 7, 1000, 9998, 9999, 10000, 10 ** 9) if least is None else (least - 1, least, least + 1):
                    if r < 0:
                        continue
                    if least is not None and r >= least:
                        with self.assertRaises(Missing):
                            forced_paper(machine, r, turns)
                        continue
                    paper = forced_paper(machine, r, turns)
                    self.assertTrue(games.is_other_paper(machine, r, paper), (machine, r, turns, paper))
                    self.assertIs(judge_forced(machine, r, paper), True)
                    papers += 1
        self.assertGreater(papers, 100)

    def test_never_papers_of_both_sides(self):
        both = 0
        for machine in random_machines(223, 150):
            for r, cap in ((0, 3), (4, 9)):
                paper = answer_of(walker_paper, machine, r, cap)
                other = answer_of(forced_paper, machine, r, 4)
                if isinstance(paper, tuple):
                    self.assertIs(judge_walker(machine, r, paper), True)
                    self.assertEqual(other, "Missing", machine)
                both += isinstance(other, tuple)
        self.assertGreater(both, 20)

    def test_larger_machines(self):
        source = random.Random(224)
        for _ in range(12):
            machine = random_machine(source, 6, 2, 0.4)
            if all(fare == NONE for fare in machine[1]):
                continue
            least = answer_of(forced, machine, 4)
            for r in (0, 3) if least is None else (0, least - 1) if isinstance(least, int) and least > 0 else ():
                self.assertIs(judge_forced(machine, r, forced_paper(machine, r, 4)), True)


class JudgeTest(unittest.TestCase):
    def test_one_thing_changed(self):
        self.assertIs(judge_forced(FORK, 1, FORK_PAPER), True)
        right = 0
        for paper in variants(PAPER, FORK_PAPER):
            known = games.is_other_paper(FORK, 1, paper)
            self.assertIs(judge_forced(FORK, 1, paper), known, paper)
            right += known
        self.assertGreater(right, 5)

    def test_ranks_have_to_fall(self):
        def paper(first, one, two, three):
            return (
                (0, ((0, 0),), first, "a"), (1, ((1, 0), (2, 0)), one, "b"), (2, ((1, 0), (2, 0)), two, "a"),
                (3, ((3, 2),), three, ""),
            )

        for ranks, right in (
            ((2, 1, 1, 0), True), ((9, 7, 3, 2), True), ((1, 1, 1, 0), False), ((2, 0, 1, 0), False),
            ((2, 1, 0, 0), False), ((2, 1, 1, 1), False), ((2, 1, 1, -1), False), ((2, 2, 1, 0), False),
            ((2, 1, 2, 0), False), ((3, 1, 2, 0), True),
        ):
            self.assertIs(judge_forced(FORK, 1, paper(*ranks)), right, ranks)
            self.assertIs(games.is_other_paper(FORK, 1, paper(*ranks)), right)

    def test_the_empty_text_where_the_other_side_has_not_won(self):
        for r, gap, right in ((1, 2, True), (2, 2, False), (2, 3, True), (0, 0, False), (0, 1, True)):
            machine = (("a",), (0,), ((((0, 0),),),), (0,))
            self.assertIs(judge_forced(machine, r, ((0, ((0, gap),), 0, ""),)), False)
            # A first position has no gap: one is only covered if its own gap is not greater.
            self.assertIs(judge_forced(FORK, r, FORK_PAPER[:3] + ((3, ((3, gap),), 0, ""),)), right and gap <= 2)

    def test_smaller_gaps_and_rows_are_covered(self):
        self.assertIs(judge_forced(FORK, 0, ((0, ((0, 0),), 2, "a"),) + FORK_PAPER[1:3] + ((3, ((3, 1),), 0, ""),)), True)
        self.assertIs(judge_forced(FORK, 0, ((0, ((0, 1),), 2, "a"),) + FORK_PAPER[1:3] + ((3, ((3, 1),), 0, ""),)), False)
        self.assertIs(judge_forced(FORK, 0, ((0, (), 2, "a"),) + FORK_PAPER[1:]), False)
        self.assertIs(judge_forced(FORK, 0, FORK_PAPER + ((2, ((2, -9),), 5, "a"),)), False)
        self.assertIs(judge_forced(FORK, 0, FORK_PAPER + ((2, ((1, 9), (2, 9)), 5, "a"),)), True)

    def test_a_letter_by_which_the_walker_has_no_move(self):
        paper = ((0, ((0, 0),), 1, "a"), (1, ((1, 0), (2, 0)), 0, "b"), (2, ((1, 0), (2, 0)), 0, "c"))
        for r in (0, 5, 10 ** 9):
            self.assertIs(judge_forced(LOST, r, paper), True)
        for at, letter in ((1, "c"), (2, "b"), (1, "a"), (0, "b"), (0, ""), (1, ""), (1, "d"), (1, "state")):
            changed = paper[:at] + (paper[at][:3] + (letter,),) + paper[at + 1:]
            self.assertIs(judge_forced(LOST, 0, changed), False)

    def test_no_first_positions(self):
        self.assertIs(judge_forced(NO_START, 0, ()), True)
        self.assertIs(judge_forced(SINGLE, 0, ()), False)

    def test_papers_with_one_thing_changed(self):
        source = random.Random(225)
        judged = {True: 0, False: 0}
        for machine in random_machines(226, 250) + [LOST]:
            for r in (0, 2):
                paper = answer_of(forced_paper, machine, r, 3)
                if not isinstance(paper, tuple):
                    continue
                papers = variants(PAPER, paper)
                papers = [paper] + source.sample(papers, min(len(papers), 25))
                papers += [changed for other in papers[1:4] for changed in variants(PAPER, other)[:20]]
                for changed in papers:
                    right = games.is_other_paper(machine, r, changed)
                    self.assertIs(judge_forced(machine, r, changed), right, (machine, r, changed))
                    judged[right] += 1
        self.assertGreater(min(judged.values()), 500, judged)
