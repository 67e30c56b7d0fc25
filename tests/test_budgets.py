"""Tests of faremachines.budgets: needs, and broke papers ([8.6], [8.7])."""

import random
import unittest

from faremachines.budgets import MAX_CREDIT, broke_paper, is_broke_paper, needs
from faremachines.errors import Missing, NotAllowed
from faremachines.games import is_walker_paper, worths
from tests import endless
from tests.samples import NONE, answer_of, variants
from tests.test_games import ENDED, GAME, game_machines

PAPER = [(int, int, int, str)]


class NeedsTest(unittest.TestCase):
    def test_against_credits_that_are_lifted(self):
        told = {"need": 0, "none": 0, "zero": 0}
        for machine in game_machines(720, 150, 4, 2):
            for income in (0, 1, 3, 5, 50, 99):
                found = needs(machine, income)
                self.assertEqual(list(found), endless.need_of(machine, income), (machine, income))
                for need in found:
                    told["none" if need == NONE else "need" if need else "zero"] += 1
        self.assertGreater(min(told.values()), 50, told)

    def test_there_is_one_just_if_the_worth_is_at_most_the_income(self):
        for machine in game_machines(721, 80, 8, 3):
            for income in (0, 2, 4, 30):
                expected = [p <= income * q for p, q in worths(machine)]
                self.assertEqual([need != NONE for need in needs(machine, income)], expected)

    def test_needs_are_a_walkers_paper(self):
        for machine in game_machines(722, 60, 5, 3):
            for income in (0, 1, 7):
                found = needs(machine, income)
                self.assertIs(is_walker_paper(machine, (income, 1), found), True)
                # No integer of a right paper is less than the need.
                for at, need in enumerate(found):
                    if need > 0:
                        self.assertIs(is_walker_paper(machine, (income, 1), found[:at] + (need - 1,) + found[at + 1:]), False)

    def test_incomes(self):
        self.assertEqual((needs(GAME, 3), needs(GAME, 2)), ((0, 2), (NONE, NONE)))
        self.assertEqual((needs(GAME, 0), needs(GAME, 99)), ((NONE, NONE), (0, 0)))
        for income in (-1, 100, -99, 10 ** 9):
            with self.assertRaises(NotAllowed):
                needs(GAME, income)
            with self.assertRaises(NotAllowed):
                broke_paper(GAME, income, 0, 0)
            with self.assertRaises(NotAllowed):
                is_broke_paper(GAME, income, ())
        for income in (0, 5, -1):
            with self.assertRaises(NotAllowed):
                needs(ENDED, income)
            with self.assertRaises(NotAllowed):
                broke_paper(ENDED, income, 0, 0)
            with self.assertRaises(NotAllowed):
                is_broke_paper(ENDED, income, ())

    def test_large_needs(self):
        # Seven moves for 99 each, and one for nothing; with the income 87 it is just enough.
        eight = tuple([((((state + 1) % 8, 99 if state < 7 else 0),),) for state in range(8)])
        ring = (("a",), (0,) * 8, eight, (0,) * 8)
        self.assertEqual(needs(ring, 87), tuple([12 * (7 - state) for state in range(8)]))
        self.assertEqual(needs(ring, 86), (NONE,) * 8)


class BrokePaperTest(unittest.TestCase):
    def test_just_where_the_credit_is_less_than_the_need(self):
        told = {"paper": 0, "Missing": 0}
        for machine in game_machines(723, 80, 3, 2):
            for income in (0, 2, 5):
                for state, need in enumerate(needs(machine, income)):
                    for credit in (0, 1, need - 1, need, need + 1, 30):
                        if credit < 0:
                            continue
                        paper = answer_of(broke_paper, machine, income, state, credit)
                        if need != NONE and credit >= need:
                            self.assertEqual(paper, "Missing")
                            told["Missing"] += 1
                            continue
                        told["paper"] += 1
                        self.assertIn((state, credit), [row[:2] for row in paper])
                        self.assertTrue(endless.is_broke_paper(machine, income, paper), (machine, income, paper))
                        self.assertIs(is_broke_paper(machine, income, paper), True)
        self.assertGreater(min(told.values()), 100, told)

    def test_papers_with_one_thing_changed(self):
        source = random.Random(724)
        judged = {True: 0, False: 0}
        for machine in game_machines(725, 60, 3, 2) + [GAME] * 3:
            for income in (0, 1, 3):
                state = source.randrange(len(machine[1]))
                paper = answer_of(broke_paper, machine, income, state, source.choice([0, 3, 12]))
                if paper == "Missing":
                    continue
                papers = variants(PAPER, paper)
                papers = source.sample(papers, min(len(papers), 40)) + [(), paper[::-1]]
                papers += [paper + ((state, 2, 50, "a"),), paper + (paper[0][:2] + (7, "b"),)]
                papers += [tuple([row[:2] + (3,) + row[3:] for row in paper])]
                papers += [tuple([row[:1] + (row[1] + 1,) + row[2:] for row in paper])]
                for changed in papers:
                    right = endless.is_broke_paper(machine, income, changed)
                    self.assertIs(is_broke_paper(machine, income, changed), right, (machine, income, changed))
                    judged[right] += 1
        self.assertGreater(min(judged.values()), 200, judged)

    def test_one_by_one(self):
        # From state 1 the caller calls a, for 5: with 3 as the income and 1 as the credit it is broke at once.
        self.assertIs(is_broke_paper(GAME, 3, ((1, 1, 0, "a"),)), True)
        self.assertIs(is_broke_paper(GAME, 3, ((1, 2, 0, "a"),)), False)
        for row in ((1, 1, -1, "a"), (1, -1, 0, "a"), (2, 1, 0, "a"), (-1, 1, 0, "a"), (1, 1, 0, "c"), (1, 1, 0, "")):
            self.assertIs(is_broke_paper(GAME, 3, (row,)), False)
        self.assertIs(is_broke_paper(GAME, 3, ((1, 1, 0, "a"), (1, 0, 7, "a"))), True)
        self.assertIs(is_broke_paper(GAME, 3, ((1, 1, 0, "a"), (1, 1, 7, "a"))), False)
        self.assertIs(is_broke_paper(GAME, 3, ()), True)
        # By b there is no move from state 0 of this one.
        one = (("a", "b"), (0,), ((((0, 9),), ()),), (0,))
        self.assertIs(is_broke_paper(one, 0, ((0, 8, 0, "a"),)), True)
        self.assertIs(is_broke_paper(one, 0, ((0, 8, 0, "b"),)), False)
        # Ranks have to fall, and the credit there has to be enough.
        self.assertIs(is_broke_paper(one, 8, ((0, 0, 0, "a"), (0, 1, 1, "a"), (0, 2, 5, "a"))), True)
        self.assertIs(is_broke_paper(one, 8, ((0, 0, 1, "a"), (0, 1, 1, "a"))), False)
        self.assertIs(is_broke_paper(one, 8, ((0, 0, 0, "a"), (0, 2, 1, "a"))), False)
        self.assertIs(is_broke_paper(one, 8, ((0, 1, 1, "a"),)), False)

    def test_credits_and_states(self):
        self.assertEqual(MAX_CREDIT, 2000)
        paper = broke_paper(GAME, 2, 0, 2000)
        self.assertIs(is_broke_paper(GAME, 2, paper), True)
        self.assertIn((0, 2000), [row[:2] for row in paper])
        for state, credit in ((0, -1), (0, 2001), (2, 0), (-1, 0), (8, 2000)):
            with self.assertRaises(NotAllowed):
                broke_paper(GAME, 2, state, credit)
            with self.assertRaises(NotAllowed):
                broke_paper(GAME, 99, state, credit)
        for credit in (2, 3, 2000):
            with self.assertRaises(Missing):
                broke_paper(GAME, 3, 1, credit)

    def test_a_paper_shows_more_than_it_tells(self):
        # A tuple serves for all lesser credits, too, so that each lesser credit may stand in its place.
        for credit in (5, 40):
            paper = broke_paper(GAME, 2, 0, credit)
            least = min(paper)
            self.assertIs(is_broke_paper(GAME, 2, tuple([row for row in paper if row != least])), False)
            top = max([row for row in paper if row[0] == 0], key=lambda row: row[1])
            lesser = top[:1] + (top[1] - 1,) + top[2:]
            self.assertIs(is_broke_paper(GAME, 2, tuple([lesser if row == top else row for row in paper])), lesser[:2] not in [row[:2] for row in paper])

    def test_large_papers(self):
        # The caller gains 1 in eight turns, so that it takes many of them.
        eight = tuple([((((state + 1) % 8, 99 if state < 7 else 0),), (((state + 2) % 8, 90),)) for state in range(8)])
        ring = (("a", "b"), (0,) * 8, eight, (0,) * 8)
        income = (worths(ring)[0][0] - 1) // worths(ring)[0][1]
        paper = broke_paper(ring, income, 3, 2000)
        self.assertIs(is_broke_paper(ring, income, paper), True)
