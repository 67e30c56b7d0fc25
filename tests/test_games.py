"""Tests of faremachines.games: worths, and the papers of the walker and the caller ([8.4], [8.5])."""

import random
import unittest
from fractions import Fraction

from faremachines.errors import NotAllowed
from faremachines.games import caller_paper, is_caller_paper, is_walker_paper, walker_paper, worths
from faremachines.means import greatest_mean, least_mean
from tests import endless
from tests.samples import COUNTER, NONE, PLAIN, STUCK, SWAPPING, random_machine, variants

GAME = (("a", "b"), (0, NONE), ((((0, 3), (1, 0)), ((0, 2),)), (((0, 5),), ((1, 1),))), (0, 0))
# State 1 has a last fare, but no move.
ENDED = (("a", "b"), (0, 0), ((((0, 1),), ()), ((), ())), (0, 0))


def game_machines(seed, many, states=3, letters=2):
    """Return a list of machines in which each state has a move."""
    source = random.Random(seed)
    found = []
    while len(found) < many:
        density = source.choice([0.3, 0.5, 0.8, 1])
        size, width = source.randrange(1, states + 1), source.randrange(1, letters + 1)
        machine = random_machine(source, size, width, density, source.choice([1, 3, 9, 99]))
        if all(any(rows) for rows in machine[2]):
            found.append(machine)
    return found


def short_ratios(machine):
    """Return a list of ratios around the worths of a machine, and others."""
    found = set()
    for p, q in worths(machine):
        found |= {Fraction(p, q), Fraction(8 * p + q, 8 * q), Fraction(max(0, 8 * p - q), 8 * q)}
    return [(ratio.numerator, ratio.denominator) for ratio in sorted(found) if ratio.denominator <= 8 and ratio <= 99]


def begun_at(machine, state):
    """Return a machine with a first fare for one state alone."""
    return (machine[0], tuple([0 if s == state else NONE for s in range(len(machine[1]))])) + machine[2:]


class WorthTest(unittest.TestCase):
    def test_against_all_choices(self):
        different = 0
        for machine in game_machines(710, 400, 3, 2):
            expected = [endless.worth_of(machine, state) for state in range(len(machine[1]))]
            self.assertEqual(worths(machine), tuple([endless.told(worth) for worth in expected]), machine)
            different += len(set(expected)) > 1
        self.assertGreater(different, 20)

    def test_the_example(self):
        self.assertEqual(worths(GAME), ((5, 2), (5, 2)))

    def test_with_one_letter_it_is_the_least_mean(self):
        for machine in game_machines(711, 60, 5, 1):
            means = tuple([least_mean(begun_at(machine, state)) for state in range(len(machine[1]))])
            self.assertEqual(worths(machine), means)

    def test_with_one_move_for_each_letter_it_is_the_greatest_mean(self):
        for machine in game_machines(712, 60, 5, 3):
            moves = tuple([tuple([row[:1] for row in rows]) for rows in machine[2]])
            single = (machine[0], machine[1], moves, machine[3])
            means = tuple([greatest_mean(begun_at(single, state)) for state in range(len(machine[1]))])
            self.assertEqual(worths(single), means)

    def test_great_denominators(self):
        eight = tuple([((((state + 1) % 8, 99 if state else 98),),) for state in range(8)])
        ring = (("a",), (0,) * 8, eight, (NONE,) * 8)
        self.assertEqual(worths(ring), ((791, 8),) * 8)
        dear = (("a",), (0,), ((((0, 99),),),), (0,))
        free = (("a",), (0,), ((((0, 0),),),), (0,))
        self.assertEqual((worths(dear), worths(free)), (((99, 1),), ((0, 1),)))

    def test_large_machines_by_papers_of_both(self):
        for machine in game_machines(713, 60, 8, 4):
            for state, worth in enumerate(worths(machine)):
                walker, caller = walker_paper(machine, worth), caller_paper(machine, worth)
                self.assertTrue(endless.is_walker_paper(machine, worth, walker) and walker[state] != NONE, machine)
                self.assertTrue(endless.is_caller_paper(machine, worth, caller) and caller[state] != NONE, machine)

    def test_states_without_moves(self):
        for machine in (ENDED, STUCK[:2] + ((((),), ((),)),) + STUCK[3:], PLAIN[:2] + (PLAIN[2][:1] + (((), ()),),) + PLAIN[3:]):
            with self.assertRaises(NotAllowed):
                worths(machine)
            for ratio in ((1, 1), (2, 2), (1, 9), (-1, 1)):
                for function in (walker_paper, caller_paper):
                    with self.assertRaises(NotAllowed):
                        function(machine, ratio)
                for function in (is_walker_paper, is_caller_paper):
                    with self.assertRaises(NotAllowed):
                        function(machine, ratio, (0, 0))

    def test_first_and_last_fares_have_no_influence(self):
        for machine in game_machines(714, 20):
            bare = (machine[0], (NONE,) * len(machine[1]), machine[2], (NONE,) * len(machine[1]))
            self.assertEqual(worths(bare), worths(machine))


class PaperTest(unittest.TestCase):
    def test_just_where_the_worth_is_on_the_side(self):
        told = {True: 0, False: 0}
        for machine in game_machines(715, 100) + [GAME, COUNTER, SWAPPING]:
            values = [Fraction(*worth) for worth in worths(machine)]
            for ratio in short_ratios(machine) + [(0, 1), (99, 1), (7, 2)]:
                walker, caller = walker_paper(machine, ratio), caller_paper(machine, ratio)
                self.assertTrue(endless.is_walker_paper(machine, ratio, walker), (machine, ratio, walker))
                self.assertTrue(endless.is_caller_paper(machine, ratio, caller), (machine, ratio, caller))
                self.assertIs(is_walker_paper(machine, ratio, walker), True)
                self.assertIs(is_caller_paper(machine, ratio, caller), True)
                for value, one, other in zip(values, walker, caller):
                    self.assertEqual((one != NONE, other != NONE), (value <= Fraction(*ratio), value >= Fraction(*ratio)))
                    told[one != NONE] += 1
        self.assertGreater(min(told.values()), 100, told)

    def test_papers_with_one_thing_changed(self):
        source = random.Random(716)
        judged = {True: 0, False: 0}
        for machine in game_machines(717, 60) + [GAME]:
            for ratio in short_ratios(machine)[:4]:
                for maker, judge, right in (
                    (walker_paper, is_walker_paper, endless.is_walker_paper),
                    (caller_paper, is_caller_paper, endless.is_caller_paper),
                ):
                    paper = maker(machine, ratio)
                    papers = variants([int], paper) + [(), (NONE,) * len(paper), (0,) * len(paper), (-2,) * len(paper)]
                    papers += [paper[:at] + (put,) + paper[at + 1:] for at in range(len(paper)) for put in (NONE, -2, 0, 9)]
                    papers += [tuple([source.randrange(-1, 12) for _ in paper]) for _ in range(5)]
                    for changed in papers:
                        expected = changed != () and right(machine, ratio, changed)
                        self.assertIs(judge(machine, ratio, changed), expected, (machine, ratio, changed))
                        judged[expected] += 1
        self.assertGreater(min(judged.values()), 300, judged)

    def test_the_examples(self):
        self.assertIs(is_walker_paper(GAME, (2, 1), (0, NONE)), False)
        self.assertIs(is_walker_paper(GAME, (5, 2), (0, 5)), True)
        self.assertIs(is_walker_paper(GAME, (5, 2), (0, 4)), False)
        self.assertIs(is_walker_paper(GAME, (5, 2), (1, 6)), True)
        self.assertEqual((walker_paper(GAME, (2, 1)), caller_paper(GAME, (3, 1))), ((NONE, NONE), (NONE, NONE)))
        self.assertNotIn(NONE, walker_paper(GAME, (3, 1)) + caller_paper(GAME, (2, 1)))

    def test_pairs_that_are_no_ratios(self):
        for ratio in (
            (2, 2), (0, 2), (0, 0), (1, 0), (5, 0), (1, -1), (-1, 1), (-1, 8), (-3, -2), (1, 9), (10, 9), (100, 1), (397, 4),
            (793, 8), (6, 4), (16, 8), (0, -1), (99, 11),
        ):
            for function in (walker_paper, caller_paper):
                with self.assertRaises(NotAllowed, msg=ratio):
                    function(GAME, ratio)
            for function in (is_walker_paper, is_caller_paper):
                for paper in ((NONE, NONE), (0,)):
                    with self.assertRaises(NotAllowed, msg=ratio):
                        function(GAME, ratio, paper)
        for ratio in ((0, 1), (99, 1), (1, 8), (791, 8), (693, 7), (395, 4)):
            answer = "NotAllowed" if ratio == (693, 7) else True
            if answer is True:
                self.assertIs(is_walker_paper(GAME, ratio, walker_paper(GAME, ratio)), True)
                self.assertIs(is_caller_paper(GAME, ratio, caller_paper(GAME, ratio)), True)
            else:
                with self.assertRaises(NotAllowed):
                    walker_paper(GAME, ratio)

    def test_the_empty_side(self):
        for judge in (is_walker_paper, is_caller_paper):
            self.assertIs(judge(GAME, (3, 1), (NONE, NONE)), True)
            for paper in ((), (NONE,), (NONE,) * 3, (NONE, -2), (-3, NONE)):
                self.assertIs(judge(GAME, (3, 1), paper), False)

    def test_integers_may_be_great(self):
        for machine in game_machines(718, 20):
            for ratio in short_ratios(machine):
                for maker, judge in ((walker_paper, is_walker_paper), (caller_paper, is_caller_paper)):
                    paper = tuple([c if c == NONE else c + 10 ** 20 for c in maker(machine, ratio)])
                    self.assertIs(judge(machine, ratio, paper), True)
