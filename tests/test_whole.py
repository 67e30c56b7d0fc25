"""What the parts of the program say together ([10.1] to [11.7], and the parts before)."""

import random
import unittest
from fractions import Fraction

from faremachines.cheapest import cheapest_ways
from faremachines.clashes import clashes, error_paper, first_clash, fitting
from faremachines.closer import fares_by_reserve, forced_fare, judge_above, judge_below, true_numbers
from faremachines.closings import closed_machine, moves_of, vital_moves
from faremachines.counts import at_most
from faremachines.errors import Broken
from faremachines.fewest import fewest_closings, holds, judge_ways, ways_paper
from faremachines.limits import is_limited, judge_closed
from faremachines.machines import best_way, count_ways, fare_of, turned
from faremachines.means import greatest_mean, least_mean
from faremachines.office import Office
from faremachines.rises import corners, fares_by_uses, risen_fare
from faremachines.spans import is_certain, is_open, log_span, way_span
from faremachines.standing import first_unlimited, standing_paper
from faremachines.tariffs import counts_of, is_tariff, unknowns_of
from tests import closed
from tests import receipts as told
from tests.samples import LETTERS, NONE, answer_of, random_machine, random_machines
from tests.test_limits import free_machines
from tests.test_standing import THREE, TWIN

CASES = closed.machines_and_logs(850, 150, 3, 3, 3) + closed.machines_and_logs(851, 60, 4, 2, 4)


class TariffTest(unittest.TestCase):
    def test_a_machines_own_fares(self):
        within = 0
        source = random.Random(852)
        for frame, receipts in told.cases(853, 80, 5, 0):
            own = told.own_tariff(frame)
            self.assertIs(is_tariff(frame, receipts, own), True)
            self.assertEqual((first_clash(frame, receipts), clashes(frame, receipts)), (0, []))
            self.assertEqual(fitting(frame, receipts), [tuple(range(len(receipts)))])
            self.assertEqual(error_paper(frame, receipts)[0], (0, 1))
            log = tuple(source.choices(frame[0], k=source.randrange(4)))
            fare = fare_of(frame, log)
            if fare == NONE or count_ways(frame, log) > 30:
                continue
            low, high = [Fraction(*ratio) for ratio in log_span(frame, receipts, log)]
            self.assertTrue(low <= fare <= high)
            for cost, way in cheapest_ways(frame, log, 3):
                low, high = [Fraction(*ratio) for ratio in way_span(frame, receipts, log, way)]
                self.assertTrue(low <= cost <= high)
                ratios = [p for p, _ in own]
                self.assertEqual(sum([count * p for count, p in zip(counts_of(frame, log, way), ratios)]), cost)
                within += 1
            # What is true by the machine is open, what is not is not certain; the best way is the least one.
            best = best_way(frame, log)
            self.assertIs(is_open(frame, receipts, ("least", log, best)), True)
            self.assertIs(is_open(frame, receipts, ("paid", log, best, "=", fare)), True)
            self.assertIs(is_certain(frame, receipts, ("paid", log, best, "=", fare + 1)), False)
            self.assertIs(is_certain(frame, receipts + [("paid", log, best, "=", fare)], ("paid", log, best, "<=", fare)), True)
        self.assertGreater(within, 50)

    def test_all_fares_told(self):
        # If what each unknown costs follows from the receipts, spans are what the machine tells.
        frame = (("a", "b"), (4,), ((((0, 7),), ((0, 2),)),), (1,))
        receipts = [("paid", log, (0,) * (len(log) + 1), "=", fare_of(frame, log)) for log in ((), ("a",), ("b", "b"), ("a", "b", "b"))]
        for log in ((), ("a", "b"), ("b",) * 30, ("a", "b") * 200):
            fare = fare_of(frame, log)
            self.assertEqual(log_span(frame, receipts, log), ((fare, 1), (fare, 1)))

    def test_unknowns_and_moves(self):
        for frame, _ in told.cases(854, 40):
            moves = [unknown[1:] for unknown in unknowns_of(frame) if unknown[0] == "move"]
            self.assertEqual(moves, moves_of(frame))


class CloserTest(unittest.TestCase):
    def test_as_much_as_the_fewest_closings(self):
        seen = {"held": 0, "more": 0}
        for machine, log in CASES:
            # Each letter comes once.
            if len(set(log)) < len(log):
                continue
            fare = fare_of(machine, log)
            for c in sorted({max(fare, 0), fare + 2, fare + 5, 1000}):
                closings = answer_of(fewest_closings, machine, log, c)
                if closings == "Missing" or len(set((state, letter) for state, letter, _ in closings)) < len(closings):
                    continue
                forced = forced_fare(machine, log, len(closings))
                self.assertTrue(forced == NONE or forced > c, (machine, log, c, closings))
                seen["held" if not closings else "more"] += 1
        self.assertGreater(min(seen.values()), 20, seen)

    def test_no_closings_force_more_than_the_reserve_does(self):
        # With a move closed everywhere the log costs at most what is forced with a reserve for each of its letters.
        for machine, log in CASES:
            fares = fares_by_reserve(machine, log, min(len(log), 5))
            for move in moves_of(machine):
                fare = fare_of(closed_machine(machine, (move,)), log)
                forced = fares[-1]
                self.assertTrue(forced == NONE or NONE < fare <= forced, (machine, log, move))

    def test_true_numbers_of_the_reserve_0_are_the_fares_from_there(self):
        for machine, log in CASES:
            numbers = true_numbers(machine, log, 0)
            fare = fare_of(machine, log)
            self.assertEqual(forced_fare(turned(machine), log[::-1], 0), fare)
            self.assertEqual(judge_above(machine, log, 0, max(fare, 0), numbers), fare != NONE)
            self.assertIs(judge_below(machine, log, 0, fare, numbers), True)


class VitalTest(unittest.TestCase):
    def test_risen_fares_grow_up_to_the_fare_with_the_move_closed(self):
        seen = {"none": 0, "fare": 0}
        for machine, log in CASES:
            for move, other in vital_moves(machine, log):
                rises = (0, 1, 2, 3, 5, 8, 13, 50, 1000, 1000000)
                fares = [risen_fare(machine, log, move, rise) for rise in rises]
                self.assertEqual(fares, sorted(fares))
                self.assertEqual(fares[0], fare_of(machine, log))
                seen["none" if other == NONE else "fare"] += 1
                if other == NONE:
                    self.assertGreaterEqual(fares[-1], 1000000)
                else:
                    self.assertEqual(fares[-1], other)
                    self.assertEqual(corners(machine, log, move)[-1][1], 0)
                    self.assertTrue(all(fare <= other for fare in fares))
        self.assertGreater(min(seen.values()), 20, seen)

    def test_moves_that_are_not_vital(self):
        for machine, log in CASES:
            vital = dict(vital_moves(machine, log))
            fare = fare_of(machine, log)
            for move in moves_of(machine):
                fares = fares_by_uses(machine, log, move)
                self.assertEqual(fares[0], fare_of(closed_machine(machine, (move,)), log))
                if fare != NONE:
                    self.assertEqual(move in vital, fares[0] != fare)
                    self.assertEqual(corners(machine, log, move) == [(0, 0)], move not in vital)

    def test_a_vital_move_holds_the_log_at_its_fare(self):
        seen = {True: 0, False: 0}
        for machine, log in CASES:
            fare = fare_of(machine, log)
            if fare == NONE:
                continue
            vital = [move for move, _ in vital_moves(machine, log)]
            self.assertEqual([move for move in moves_of(machine) if holds(machine, log, fare, (move,))], vital)
            fewest = answer_of(fewest_closings, machine, log, fare)
            self.assertEqual(fewest[:1] == (vital[0],) and len(fewest) == 1 if vital else len(fewest) != 1, True)
            if not vital:
                self.assertIs(judge_ways(machine, log, fare, 1, ways_paper(machine, log, fare, 1)), True)
            seen[bool(vital)] += 1
        self.assertGreater(min(seen.values()), 10, seen)

    def test_closed_everywhere_and_by_an_office(self):
        for machine, log in CASES[:80]:
            office = Office(machine[0])
            office.add(machine)
            for at, letter in enumerate(log):
                office.edit(("put", at, letter))
            fare = fare_of(machine, log)
            if fare == NONE:
                continue
            office.set_bound(1, fare)
            vital = dict(vital_moves(machine, log))
            for state, letter, after in moves_of(machine):
                move = (state, letter, after)
                if move in vital:
                    with self.assertRaises(Broken) as caught:
                        office.set_move(1, state, letter, after, NONE)
                    self.assertEqual(caught.exception.fare, vital[move])
                else:
                    office.set_move(1, state, letter, after, NONE)
                    self.assertEqual(office.machines()[0][1], closed_machine(machine, (move,)))
                    office.undo()


class StandingTest(unittest.TestCase):
    def test_a_machine_is_limited_with_each_single_closing_that_it_stands(self):
        stood = 0
        machines = random_machines(855, 40, 2, 2) + free_machines(856, 60) + [THREE, TWIN]
        for machine in machines:
            if answer_of(first_unlimited, machine, 1) != "Missing":
                continue
            stood += 1
            paper = dict(standing_paper(machine, 1))
            for move in moves_of(machine):
                other = closed_machine(machine, (move,))
                self.assertIs(is_limited(other), True)
                self.assertIs(judge_closed(other, paper[(move,)]), True)
        self.assertGreater(stood, 20)

    def test_closing_moves_lowers_the_greatest_mean_and_the_number_of_ways(self):
        source = random.Random(857)
        for _ in range(40):
            machine = random_machine(source, 3, 2, 0.7)
            machine = (LETTERS[:2], (0, 0, 0)) + machine[2:]
            for move in moves_of(machine)[:5]:
                other = closed_machine(machine, (move,))
                means = [answer_of(mean, found) for mean in (least_mean, greatest_mean) for found in (machine, other)]
                if "Missing" not in means:
                    values = [Fraction(*mean) for mean in means]
                    self.assertTrue(values[0] <= values[1] and values[3] <= values[2])
                if answer_of(at_most, machine, 3)[0] is True:
                    self.assertIs(at_most(other, 3)[0], True)
