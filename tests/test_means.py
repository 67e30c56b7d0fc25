"""Tests of faremachines.means: endless ways, means and their papers, endless logs ([8.1] to [8.3])."""

import random
import unittest
from fractions import Fraction

from faremachines.errors import Missing, NotAllowed
from faremachines.machines import fare_of
from faremachines.means import greatest_mean, is_mean_paper, least_mean, mean_of, mean_paper
from tests import endless
from tests.samples import COUNTER, FORK, HALF_USEFUL, NONE, PLAIN, ROWS, SINGLE, STUCK, SWAPPING, answer_of
from tests.samples import logs_up_to, random_machine, random_machines, variants

# Rounds of one, of two and of three letters, and states that lead nowhere.
THREE = (
    ("a",),
    (0, NONE, NONE, NONE),
    ((((1, 5),),), (((2, 0), (3, 1)),), (((0, 2), (2, 3)),), ((),)),
    (0, NONE, NONE, NONE),
)
# State 1 has a free round, but no log leads to it.
APART = (("a",), (0, NONE), ((((0, 4),),), (((0, 9), (1, 0)),)), (NONE, 0))
# A state with a first fare, and no move.
ENDED = (("a", "b"), (3, NONE), (((), ((1, 2),)), ((), ())), (0, 0))

MACHINES = random_machines(700, 200, 4, 2) + [
    APART, COUNTER, ENDED, FORK, HALF_USEFUL, PLAIN, ROWS, SINGLE, STUCK, SWAPPING, THREE,
]


class MeansTest(unittest.TestCase):
    def test_against_all_short_rounds(self):
        missing = 0
        for machine in MACHINES:
            means = endless.round_means(machine)
            expected = [endless.told(min(means)), endless.told(max(means))] if means else ["Missing"] * 2
            self.assertEqual([answer_of(least_mean, machine), answer_of(greatest_mean, machine)], expected, machine)
            missing += not means
        self.assertTrue(10 < missing < 150, missing)

    def test_rounds_of_several_lengths(self):
        # 5 + 0 + 2 by three letters, 3 by one.
        self.assertEqual((least_mean(THREE), greatest_mean(THREE)), ((7, 3), (3, 1)))
        self.assertEqual((least_mean(SWAPPING), greatest_mean(SWAPPING)), ((2, 1), (2, 1)))
        self.assertEqual((least_mean(COUNTER), greatest_mean(COUNTER)), ((0, 1), (1, 1)))
        eight = tuple([((((state + 1) % 8, 99 if state else 98),),) for state in range(8)])
        ring = (("a",), (NONE,) * 7 + (0,), eight, (NONE,) * 8)
        self.assertEqual((least_mean(ring), greatest_mean(ring)), ((791, 8), (791, 8)))

    def test_states_that_no_log_reaches(self):
        self.assertEqual((least_mean(APART), greatest_mean(APART)), ((4, 1), (4, 1)))
        without = (APART[0], (NONE, NONE), APART[2], APART[3])
        for function in (least_mean, greatest_mean):
            with self.assertRaises(Missing):
                function(without)

    def test_last_fares_have_no_influence(self):
        for machine in MACHINES:
            other = machine[:3] + ((NONE,) * len(machine[1]),)
            for function in (least_mean, greatest_mean):
                self.assertEqual(answer_of(function, other), answer_of(function, machine))

    def test_without_an_endless_way(self):
        bare = (("a",), (0,), (((),),), (0,))
        unbegun = (("a",), (NONE,), ((((0, 1),),),), (0,))
        for machine in (ENDED, bare, unbegun):
            for greatest in (False, True):
                with self.assertRaises(Missing):
                    mean_paper(machine, greatest)
                self.assertIs(is_mean_paper(machine, greatest, ((1, 1), (), ("a",), ((0,), (0, 0)), (0,) * 2)), False)
            with self.assertRaises(Missing):
                mean_of(machine, (), ("a",))

    def test_logs_cost_at_least_the_least_mean_in_the_long_run(self):
        for machine in MACHINES[:60]:
            for function, sign in ((least_mean, 1), (greatest_mean, -1)):
                mean = answer_of(function, machine)
                if mean == "Missing":
                    continue
                bare = (machine[0], machine[1], machine[2], (0,) * len(machine[1]))
                for log in (machine[0] * 30, (machine[0][-1],) * 60):
                    fare = fare_of(bare, log)
                    if sign == 1 and fare != NONE:
                        self.assertGreaterEqual(Fraction(fare + 8 * 99, len(log)), Fraction(*mean))
                    elif fare != NONE:
                        self.assertLessEqual(Fraction(fare - 2 * 8 * 99, len(log)), Fraction(*mean))


class PaperTest(unittest.TestCase):
    def test_papers_are_right_for_their_mean(self):
        other = {True: 0, False: 0}
        for machine in MACHINES:
            for greatest in (False, True):
                paper = answer_of(mean_paper, machine, greatest)
                mean = answer_of(greatest_mean if greatest else least_mean, machine)
                if mean == "Missing":
                    self.assertEqual(paper, "Missing")
                    continue
                self.assertEqual(paper[0], mean)
                self.assertTrue(endless.is_mean_paper(machine, greatest, paper), (machine, paper))
                self.assertIs(is_mean_paper(machine, greatest, paper), True)
                # A paper of the other mean is right just if the ratio is that of all rounds.
                right = endless.is_mean_paper(machine, not greatest, paper)
                self.assertIs(is_mean_paper(machine, not greatest, paper), right)
                self.assertTrue(not right or least_mean(machine) == greatest_mean(machine))
                other[right] += 1
        self.assertGreater(min(other.values()), 20, other)

    def test_papers_with_one_thing_changed(self):
        source = random.Random(701)
        judged = {True: 0, False: 0}
        for machine in random_machines(702, 80, 3, 2) + [PLAIN, THREE, APART, COUNTER]:
            for greatest in (False, True):
                paper = answer_of(mean_paper, machine, greatest)
                if paper == "Missing":
                    continue
                heights = paper[4]
                told = tuple([0 if height is None else height for height in heights])
                changes = variants(((int, int), [str], [str], ([int], [int]), [int]), paper[:4] + (told,))
                changes = source.sample(changes, min(len(changes), 40))
                for at, height in enumerate(heights):
                    for put in (None, 0 if height is None else height - 1, 5):
                        changes.append(paper[:4] + (heights[:at] + (put,) + heights[at + 1:],))
                changes += [paper[:4] + (heights[:-1],), paper[:4] + (heights + (None,),), paper[:4] + ((),)]
                p, q = paper[0]
                changes += [(ratio,) + paper[1:] for ratio in ((2 * p, 2 * q), (-p, -q), (p, 0), (0, 0), (p + q, q))]
                changes += [paper[:2] + ((), (paper[3][0], paper[3][1][:1]), heights)]
                for changed in changes:
                    right = endless.is_mean_paper(machine, greatest, changed)
                    self.assertIs(is_mean_paper(machine, greatest, changed), right, (machine, greatest, changed))
                    judged[right] += 1
        self.assertGreater(min(judged.values()), 300, judged)

    def test_one_by_one(self):
        paper = ((4, 1), (), ("a",), ((0,), (0, 0)), (0, None))
        self.assertIs(is_mean_paper(APART, False, paper), True)
        self.assertIs(is_mean_paper(APART, True, paper), True)
        # State 1 may have an integer, if its moves keep to it, too.
        self.assertIs(is_mean_paper(APART, False, paper[:4] + ((0, 5),)), False)
        self.assertIs(is_mean_paper(APART, True, paper[:4] + ((0, -5),)), True)
        self.assertIs(is_mean_paper(APART, True, paper[:4] + ((0, -4),)), False)
        self.assertIs(is_mean_paper(APART, False, ((8, 2),) + paper[1:]), False)
        self.assertIs(is_mean_paper(APART, False, paper[:4] + ((None, None),)), False)
        self.assertIs(is_mean_paper(APART, False, paper[:1] + (("b",),) + paper[2:]), False)
        longer = ((4, 1), ("a",) * 400, ("a",) * 400, ((0,) * 401, (0,) * 401), (7, None))
        self.assertIs(is_mean_paper(APART, False, longer), True)
        for at in (1, 2):
            more = (longer[3][0] + (0,),) + longer[3][1:] if at == 1 else longer[3][:1] + (longer[3][1] + (0,),)
            self.assertIs(is_mean_paper(APART, False, longer[:at] + (("a",) * 401,) + longer[at + 1:3] + (more, (7, None))), False)

    def test_rounds_that_are_not_short(self):
        # A round that goes twice around, and one that is begun somewhere else.
        self.assertIs(is_mean_paper(THREE, False, ((7, 3), (), ("a",) * 6, ((0,), (0, 1, 2) * 2 + (0,)), (0, 8, 1, None))), False)
        right = mean_paper(THREE, False)[4]
        self.assertIs(is_mean_paper(THREE, False, ((7, 3), (), ("a",) * 6, ((0,), (0, 1, 2) * 2 + (0,)), right)), True)
        self.assertIs(is_mean_paper(THREE, False, ((7, 3), ("a",), ("a",) * 3, ((0, 1), (1, 2, 0, 1)), right)), True)
        self.assertIs(is_mean_paper(THREE, False, ((7, 3), ("a",), ("a",) * 3, ((0, 1), (0, 1, 2, 0)), right)), False)
        self.assertIs(is_mean_paper(THREE, False, ((3, 1), ("a", "a"), ("a",), ((0, 1, 2), (2, 2)), right)), False)


class EndlessLogTest(unittest.TestCase):
    def test_against_places_and_states(self):
        told = {"ratio": 0, "Missing": 0}
        for machine in MACHINES:
            logs = logs_up_to(machine[0], 2)
            for ahead in logs:
                for ring in logs[1:] + [(machine[0][0],) * 3 + (machine[0][-1],)]:
                    mean = endless.mean_along(machine, ahead, ring)
                    expected = "Missing" if mean is None else endless.told(mean)
                    self.assertEqual(answer_of(mean_of, machine, ahead, ring), expected, (machine, ahead, ring))
                    told["Missing" if mean is None else "ratio"] += 1
        self.assertGreater(min(told.values()), 100, told)

    def test_the_round_may_begin_later(self):
        for machine in MACHINES[:60]:
            for ahead, ring in (((), ("a", machine[0][-1])), (("a",), ("a", "a", machine[0][-1]))):
                mean = answer_of(mean_of, machine, ahead, ring)
                self.assertEqual(answer_of(mean_of, machine, ahead + ring[:1], ring[1:] + ring[:1]), mean)
                self.assertEqual(answer_of(mean_of, machine, ahead + ring, ring), mean)
                self.assertEqual(answer_of(mean_of, machine, ahead, ring * 2), mean)

    def test_no_endless_log_is_below_the_least_mean(self):
        for machine in MACHINES:
            bounds = [answer_of(least_mean, machine), answer_of(greatest_mean, machine)]
            means = [answer_of(mean_of, machine, (), ring) for ring in logs_up_to(machine[0], 3)[1:]]
            means = [Fraction(*mean) for mean in means if mean != "Missing"]
            if means:
                self.assertTrue(Fraction(*bounds[0]) <= min(means) and max(means) <= Fraction(*bounds[1]))

    def test_what_is_not_allowed(self):
        for ahead, ring in (
            ((), ()), (("a",), ()), (("c",), ("a",)), ((), ("c",)), (("a", "", "a"), ("a",)), ((), ("a", "ab")),
            (("a",) * 401, ("a",)), ((), ("a",) * 401), (("c",), ()),
        ):
            for machine in (PLAIN, ENDED):
                with self.assertRaises(NotAllowed, msg=(ahead, ring)):
                    mean_of(machine, ahead, ring)
        self.assertEqual(mean_of(PLAIN, ("a",) * 400, ("a",) * 400), (1, 1))

    def test_long_rounds(self):
        source = random.Random(703)
        machine = random_machine(source, 8, 4, 0.9, 99)
        ring = tuple(source.choices(machine[0], k=397))
        mean = Fraction(*mean_of(machine, (), ring))
        bare = (machine[0], machine[1], machine[2], (0,) * 8)
        self.assertLess(abs(Fraction(fare_of(bare, ring), len(ring)) - mean), 3)
