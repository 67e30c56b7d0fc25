"""Tests of faremachines.bystate ([4.4])."""

import itertools
import unittest

from faremachines.bystate import best_by_state, state_walker
from faremachines.errors import Missing, NotAllowed, TooLarge
from faremachines.walkers import check_walker, regret, walker_fare
from tests.samples import COUNTER, FORK, HALF_USEFUL, NONE, PLAIN, STUCK, answer_of, logs_up_to, random_machines
from tests.samples import step_fare


def choices(machine):
    """Return the list of all choices, in the order of tuples."""
    rows = [[after for after, _ in row] or [NONE] for rows in machine[2] for row in rows]
    width = len(machine[0])
    found = []
    for flat in itertools.product(*rows):
        found.append(tuple([flat[at:at + width] for at in range(0, len(flat), width)]))
    return sorted(found)


def fare_by_choice(machine, start, choice, log):
    """Return what one pays who begins in a state and goes by a choice, or NONE."""
    state, paid = start, machine[1][start]
    for letter in log:
        after = choice[state][machine[0].index(letter)]
        if after == NONE:
            return NONE
        paid += step_fare(machine, state, letter, after)
        state = after
    return NONE if machine[3][state] == NONE else paid + machine[3][state]


def with_rows(sizes, starts=1, lasts=0):
    """Return a machine of 8 states and 4 letters, with as many moves as told in one row after another."""
    rows = [tuple([(state, state) for state in range(size)]) for size in sizes]
    rows += [((0, 0),)] * (32 - len(rows))
    moves = tuple([tuple(rows[at:at + 4]) for at in range(0, 32, 4)])
    return ("a", "b", "c", "d"), (0,) * starts + (NONE,) * (8 - starts), moves, (lasts,) * 8


class StateWalkerTest(unittest.TestCase):
    def test_spots_stand_in_the_order_in_which_they_are_met(self):
        choice = ((1, 4), (1, 2), (3, 0), (4, 2), (0, 3))
        moves = tuple([tuple([((after, 1),) for after in row]) for row in choice])
        machine = (("a", "b"), (NONE, NONE, 0, NONE, NONE), moves, (0,) * 5)
        walker = ((2, (1, 2)), (3, (3, 0)), (0, (4, 3)), (4, (2, 1)), (1, (4, 0)))
        self.assertEqual(state_walker(machine, 2, choice), walker)

    def test_only_what_is_met_has_spots(self):
        self.assertEqual(state_walker(PLAIN, 1, ((0, 1), (1, 1))), ((1, (0, 0)),))
        self.assertEqual(state_walker(PLAIN, 0, ((0, 1), (1, 1))), ((0, (0, 1)), (1, (1, 1))))
        self.assertEqual(state_walker(PLAIN, 1, ((0, 1), (1, 0))), ((1, (0, 1)), (0, (1, 0))))
        self.assertEqual(state_walker(HALF_USEFUL, 1, ((0, 1), (1, NONE), (2, 2))), ((1, (0, NONE)),))

    def test_starts_and_choices_that_are_none(self):
        choice = ((0, 1), (1, NONE), (2, 2))
        state_walker(HALF_USEFUL, 0, choice)
        for start in (2, 3, -1, -3, 99):
            with self.assertRaises(NotAllowed):
                state_walker(HALF_USEFUL, start, choice)
        for wrong in (
            (), choice[:2], choice + ((0, 1),), ((0,), (1, NONE), (2, 2)), ((0, 1, 1), (1, NONE), (2, 2)),
            ((0, NONE), (1, NONE), (2, 2)), ((NONE, 1), (1, NONE), (2, 2)), ((0, 1), (1, 0), (2, 2)),
            ((0, 0), (1, NONE), (2, 2)), ((2, 1), (1, NONE), (2, 2)), ((0, 1), (0, NONE), (2, 2)),
            ((0, 1), (1, NONE), (3, 2)), ((0, 1), (1, NONE), (-2, 2)), ((0, 1), (1, NONE), ()),
        ):
            with self.assertRaises(NotAllowed):
                state_walker(HALF_USEFUL, 0, wrong)

    def test_it_goes_by_the_choice(self):
        for machine in random_machines(201, 60):
            starts = [state for state, fare in enumerate(machine[1]) if fare != NONE]
            for start, choice in itertools.product(starts, choices(machine)[:8]):
                walker = state_walker(machine, start, choice)
                check_walker(machine, walker)
                self.assertEqual(walker[0][0], start)
                for log in logs_up_to(machine[0], 4):
                    self.assertEqual(walker_fare(machine, walker, log), fare_by_choice(machine, start, choice, log))


class BestTest(unittest.TestCase):
    def test_the_first_one_with_the_least_regret(self):
        found = {"int": 0, "Missing": 0, "later": 0}
        for machine in random_machines(202, 400) + [FORK, PLAIN, COUNTER, STUCK, HALF_USEFUL]:
            starts = [state for state, fare in enumerate(machine[1]) if fare != NONE]
            pairs = list(itertools.product(starts, choices(machine)))
            if len(pairs) > 300:
                continue
            regrets = [answer_of(regret, machine, state_walker(machine, *pair)) for pair in pairs]
            least = min([more for more in regrets if more != "Missing"], default=None)
            if least is None:
                self.assertEqual(answer_of(best_by_state, machine), "Missing")
                found["Missing"] += 1
            else:
                at = regrets.index(least)
                self.assertEqual(best_by_state(machine), (least, *pairs[at]))
                found["int"] += 1
                found["later"] += at > 0 and regrets.count(least) > 1
        self.assertGreater(min(found.values()), 20, found)

    def test_machines_without_a_regret(self):
        with self.assertRaises(Missing):
            best_by_state(COUNTER)
        with self.assertRaises(Missing):
            best_by_state((("a",), (NONE, NONE), (((),), ((),)), (0, 0)))
        # No log can be gone, so that the fare is there for all of them.
        self.assertEqual(best_by_state(STUCK), (0, 0, ((0,), (1,))))

    def test_just_so_many_choices(self):
        for sizes, starts, large in (
            ((5, 5, 5, 4, 6), 1, False), ((5, 5, 5, 4, 6), 2, True), ((5, 5, 5, 4, 3), 2, False),
            ((5, 5, 5, 4, 3), 3, True), ((7, 7, 7, 8), 1, False), ((8, 8, 8, 6), 1, True), ((2,) * 12, 1, True),
            ((8,) * 32, 8, True), ((), 8, False),
        ):
            for lasts in (0, NONE):
                machine = with_rows(sizes, starts, lasts)
                if large:
                    with self.assertRaises(TooLarge):
                        best_by_state(machine)
                elif lasts == NONE:
                    choice = ((0,) * 4,) * 8
                    self.assertEqual(best_by_state(machine), (0, 0, choice))
                else:
                    self.assertEqual(best_by_state(machine)[:2], (0, 0))

    def test_many_choices_none_of_which_has_a_regret(self):
        # By a to 6 or to 7: from there it ends by a, or by b, and not by the other letter.
        for sizes, answer in (((5, 5, 5, 4, 3), "Missing"), ((5, 5, 5, 4, 4), "TooLarge")):
            letters, _, moves, _ = with_rows(sizes)
            ends, stops = ((4, 0),), ((3, 0),)
            moves = moves[:5] + ((((6, 0), (7, 0)),) + moves[5][1:],)
            moves += ((ends, stops, stops, stops), (stops, ends, stops, stops))
            machine = (letters, (NONE,) * 5 + (0, NONE, NONE), moves, (NONE,) * 4 + (0, NONE, NONE, NONE))
            self.assertEqual(answer_of(best_by_state, machine), answer)

    def test_no_start_at_all(self):
        # No pairs of a start and a choice, however many choices there are.
        letters, _, moves, lasts = with_rows((8,) * 32)
        self.assertEqual(answer_of(best_by_state, (letters, (NONE,) * 8, moves, lasts)), "Missing")
