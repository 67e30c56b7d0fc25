"""Machines that are turned, told otherwise, or whose fares are all as many times as great ([1.6], [4.4] to [7.7])."""

import random
import unittest
from unittest import mock

from faremachines import regretgame
from faremachines.bystate import best_by_state
from faremachines.forced import forced
from faremachines.greatest import first_log, greatest_fare
from faremachines.limits import is_limited
from faremachines.machines import check_machine, turned
from faremachines.made import made
from faremachines.regretgame import least_regret
from faremachines.rounds import rounds
from faremachines.singles import single_fare
from tests.samples import COUNTER, FORK, HALF_USEFUL, NONE, PLAIN, STUCK, answer_of, logs_up_to, random_machines
from tests.test_growing import NESTED
from tests.test_limits import free_machines

MACHINES = random_machines(350, 30) + free_machines(351, 50) + [COUNTER, FORK, HALF_USEFUL, NESTED, PLAIN, STUCK]


def reordered(machine, order):
    """Return a machine in which the state k has the number order[k]."""
    places = [order.index(k) for k in range(len(order))]
    moves = [[tuple(sorted([(order[t], fare) for t, fare in row])) for row in machine[2][k]] for k in places]
    firsts, lasts = [tuple([fares[k] for k in places]) for fares in (machine[1], machine[3])]
    return machine[0], firsts, tuple([tuple(rows) for rows in moves]), lasts


def with_one_more(machine, met):
    """Return a machine with a state more, that is met and leads nowhere, or that leads on and cannot be met."""
    many = len(machine[1])
    moves = [list(rows) for rows in machine[2]]
    if met:
        moves[0][0] = moves[0][0] + ((many, 0),)
        moves.append([((many, 1),) for _ in machine[0]])
        return machine[0], machine[1] + (NONE,), tuple([tuple(rows) for rows in moves]), machine[3] + (NONE,)
    moves.append([((0, 5), (many, 1)) for _ in machine[0]])
    return machine[0], machine[1] + (NONE,), tuple([tuple(rows) for rows in moves]), machine[3] + (0,)


def times(machine, k):
    """Return a machine whose fares are all k times as great."""
    moves = tuple([tuple([tuple([(t, fare * k) for t, fare in row]) for row in rows]) for rows in machine[2]])
    firsts, lasts = [tuple([fare if fare == NONE else fare * k for fare in fares]) for fares in (machine[1], machine[3])]
    return machine[0], firsts, moves, lasts


def by_times(answer, k):
    """Return an answer k times as great, if it is an integer from 0 on."""
    return answer * k if isinstance(answer, int) and answer is not True and answer is not False else answer


class TurnedTest(unittest.TestCase):
    def test_limits_and_the_greatest_fare(self):
        told = set()
        for machine in MACHINES:
            one, other = answer_of(is_limited, machine), answer_of(is_limited, turned(machine))
            if "TooLarge" not in (one, other):
                self.assertIs(one, other, machine)
                told.add(one)
            one, other = answer_of(greatest_fare, machine), answer_of(greatest_fare, turned(machine))
            if "TooLarge" not in (one, other):
                self.assertEqual(one, other, machine)
        self.assertEqual(told, {True, False})

    def test_what_is_made_of_them(self):
        both = 0
        for machine in MACHINES:
            one, other = answer_of(made, machine), answer_of(made, turned(machine))
            if "TooLarge" not in (one, other):
                both += 1
                for log in logs_up_to(machine[0], 3):
                    self.assertEqual(single_fare(one, log), single_fare(other, log[::-1]))
        self.assertGreater(both, 30)


class OtherwiseTest(unittest.TestCase):
    def setUp(self):
        # So that it takes less long to tell that too many come up.
        patch = mock.patch.object(regretgame, "MAX_POSITIONS", 200)
        patch.start()
        self.addCleanup(patch.stop)

    def is_like(self, machine, other):
        """Check that two machines have the same answers."""
        check_machine(other)
        for function, arguments in (
            (is_limited, ()), (greatest_fare, ()), (made, ()), (first_log, (3,)), (forced, (0,)), (forced, (3,)),
            (least_regret, (0,)), (least_regret, (7,)),
        ):
            answers = [answer_of(function, told, *arguments) for told in (machine, other)]
            if function in (made, first_log) or "TooLarge" not in answers:
                self.assertEqual(answers[0], answers[1], (function, machine, other))
        self.assertEqual(rounds(machine)[0], rounds(other)[0])

    def test_states_in_another_order(self):
        source = random.Random(352)
        for machine in MACHINES:
            many = len(machine[1])
            other = reordered(machine, source.sample(range(many), many))
            self.is_like(machine, other)
            bests = [answer_of(best_by_state, told) for told in (machine, other)]
            self.assertEqual(*[best if isinstance(best, str) else best[0] for best in bests])

    def test_one_state_more(self):
        for machine in MACHINES:
            # Where there was no move at all, one that leads nowhere loses some letters later.
            for met in (False, True) if machine[2][0][0] else (False,):
                other = with_one_more(machine, met)
                self.is_like(machine, other)
                bests = [answer_of(best_by_state, told) for told in (machine, other)]
                if "TooLarge" not in bests:
                    self.assertEqual(*[best if isinstance(best, str) else best[0] for best in bests])

    def test_all_fares_as_many_times_as_great(self):
        told = 0
        for machine in MACHINES:
            for k in (2, 3):
                other = times(machine, k)
                self.assertEqual(answer_of(is_limited, other), answer_of(is_limited, machine))
                for function, one, two in (
                    (greatest_fare, (), ()), (forced, (3,), (3,)), (least_regret, (0,), (0,)), (least_regret, (7,), (7 * k,)),
                ):
                    answers = [answer_of(function, machine, *one), answer_of(function, other, *two)]
                    large = isinstance(answers[0], int) and answers[0] * k > 60
                    if "TooLarge" in answers or (function is least_regret and (large or answers == ["Missing", "TooLarge"])):
                        continue
                    self.assertEqual(answers[1], by_times(answers[0], k), (function, machine))
                    told += isinstance(answers[0], int)
                singles = [answer_of(made, machine), answer_of(made, other)]
                if singles[0] == "TooLarge":
                    self.assertEqual(singles[1], "TooLarge")
                else:
                    letters, first, moves, lasts = singles[0]
                    rows = tuple([tuple([(t, by_times(fare, k) if t != NONE else NONE) for t, fare in row]) for row in moves])
                    lasts = tuple([last if last == NONE else last * k for last in lasts])
                    self.assertEqual(singles[1], (letters, first if first == NONE else first * k, rows, lasts))
        self.assertGreater(told, 150)
