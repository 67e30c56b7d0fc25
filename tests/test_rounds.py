"""Tests of faremachines.rounds ([5.3], [5.4])."""

import itertools
import unittest

from faremachines.machines import turned
from faremachines.rounds import is_alike, is_drift, rounds, useful
from tests.samples import COUNTER, HALF_USEFUL, NONE, PLAIN, STUCK, SWAPPING
from tests.samples import closed_useful, levelled_machine, logs_up_to, random_machines, rows_along, step_fare
from tests.samples import useful_states


def pairs_together(machine):
    """Return the set of the pairs of useful states that are together, for machines of up to 3 states."""
    good = useful_states(machine)
    pairs = set()
    # There are 7 sets of states at most, so that 6 letters lead to each one to which some log leads.
    for log in logs_up_to(machine[0], 6):
        ends = set([state for state in good if machine[1][state] != NONE])
        for letter in log:
            ends = set([t for s in ends for t in good if step_fare(machine, s, letter, t) != NONE])
        pairs.update(itertools.product(ends, ends))
    return pairs


def drifting_rounds(machine, longest):
    """Yield the papers of drift whose second log has up to so many letters, the first one up to 3."""
    good = useful_states(machine)
    for ahead in logs_up_to(machine[0], 3):
        begun = [row for row, _ in rows_along(machine, ahead, good) if machine[1][row[0]] != NONE]
        for turn in logs_up_to(machine[0], longest)[1:]:
            backs = [(row, fare) for row, fare in rows_along(machine, turn, good) if row[0] == row[-1]]
            for one, other in itertools.product(begun, begun):
                for (p, f), (q, g) in itertools.product(backs, backs):
                    if p[0] == one[-1] and q[0] == other[-1] and f != g:
                        yield ahead, turn, (one, other, p, q)


def free_machine(machine):
    """Return the machine whose moves all cost the same, so that no rounds drift apart."""
    rows = [tuple([tuple([(after, 4) for after, _ in row]) for row in rows]) for rows in machine[2]]
    return machine[0], machine[1], tuple(rows), machine[3]


class UsefulTest(unittest.TestCase):
    def test_against_the_definition(self):
        for machine in random_machines(10, 60, states=3):
            self.assertEqual(useful(machine), useful_states(machine))

    def test_machines_of_eight_states(self):
        for machine in random_machines(11, 60, states=8, letters=2):
            self.assertEqual(useful(machine), closed_useful(machine))

    def test_states_that_are_not_useful(self):
        self.assertEqual(useful(HALF_USEFUL), [0])
        self.assertEqual(useful(turned(HALF_USEFUL)), [0])
        self.assertEqual(useful(STUCK), [])
        self.assertEqual(useful(PLAIN), [0, 1])
        # In a row of eight states each one is met by the one before alone.
        rows = tuple([(((state + 1, 1),),) for state in range(7)]) + (((),),)
        self.assertEqual(useful((("a",), (0,) + (NONE,) * 7, rows, (NONE,) * 7 + (0,))), list(range(8)))
        self.assertEqual(useful((("a",), (0,) + (NONE,) * 7, rows, (NONE,) * 4 + (0,) + (NONE,) * 3)), [0, 1, 2, 3, 4])

    def test_a_new_list_each_time(self):
        found = useful(PLAIN)
        found.append(7)
        self.assertEqual(useful(PLAIN), [0, 1])
        self.assertIs(type(found), list)


class RoundsTest(unittest.TestCase):
    def judge(self, machine):
        """Assert that the paper that is told is right, and its kind alone; return the kind and the paper."""
        kind, paper = rounds(machine)
        if kind == "alike":
            self.assertIs(is_alike(machine, paper), True, machine)
        else:
            self.assertEqual(kind, "drift")
            self.assertIs(is_drift(machine, paper), True, machine)
        return kind, paper

    def test_the_examples(self):
        self.assertEqual(useful(COUNTER), [0, 1])
        self.assertEqual(self.judge(COUNTER)[0], "drift")
        self.assertIs(is_drift(COUNTER, ((), ("a",), ((0,), (1,), (0, 0), (1, 1)))), True)
        self.assertEqual(self.judge(SWAPPING)[0], "alike")
        self.assertIs(is_alike(SWAPPING, ((0, 0, 0, 0), (0, 1, 0, 7), (1, 0, 0, 7), (1, 1, 0, 0))), True)

    def test_against_all_short_rounds(self):
        for machine in random_machines(12, 80, states=2):
            drifting = list(itertools.islice(drifting_rounds(machine, 4), 40))
            kind, paper = self.judge(machine)
            self.assertEqual(kind, "drift" if drifting else "alike", machine)
            for other in drifting:
                self.assertIs(is_drift(machine, other), True)

    def test_papers_of_larger_machines(self):
        kinds = []
        for machine in random_machines(13, 80, states=8, letters=3):
            kinds.append(self.judge(machine)[0])
            self.assertEqual(self.judge(free_machine(machine))[0], "alike")
        self.assertEqual(set(kinds), {"alike", "drift"})

    def test_rounds_whose_fares_are_alike_as_sums(self):
        for machine in random_machines(14, 30, states=8, letters=2):
            kind, paper = self.judge(levelled_machine(machine, (3, 0, 5, 1, 4, 2, 0, 5)))
            self.assertEqual(kind, "alike")
            self.assertEqual([row[:2] for row in paper], sorted(set([row[:2] for row in paper])))

    def test_one_fare_in_a_long_round(self):
        # Two rings of four and of three states, which are together again behind twelve letters.
        ring = [(((state + 1, 2),),) for state in range(3)] + [(((0, 2),),)]
        other = [(((state + 1, 2),),) for state in range(4, 6)] + [(((4, 2),),)]
        firsts, lasts = (0, NONE, NONE, NONE, 0, NONE, NONE), (0,) * 7
        self.assertEqual(self.judge((("a",), firsts, tuple(ring + other), lasts))[0], "alike")
        other[1] = (((6, 3),),)
        kind, (ahead, turn, ways) = self.judge((("a",), firsts, tuple(ring + other), lasts))
        self.assertEqual((kind, len(turn) % 12), ("drift", 0))

    def test_rounds_of_states_that_are_not_together(self):
        machine = (("a", "b"), (0, NONE, NONE), (
            (((1, 0),), ((2, 0),)),
            (((1, 1),), ()),
            (((2, 5),), ()),
        ), (NONE, 0, 0))
        self.assertEqual(self.judge(machine)[0], "alike")
        joined = (machine[0], machine[1], ((((1, 0), (2, 0)), ()),) + machine[2][1:], machine[3])
        self.assertEqual(self.judge(joined)[0], "drift")

    def test_moves_between_zones_may_cost_anything(self):
        machine = (("a",), (0, 9), ((((0, 1), (1, 50)),), (((1, 1),),)), (0, 0))
        self.assertEqual(self.judge(machine)[0], "alike")

    def test_states_that_are_not_useful(self):
        # State 1 is met, and has a dearer round, but leads to no last fare.
        machine = (("a",), (0, 0), ((((0, 1), (1, 1)),), (((1, 5),),)), (0, NONE))
        self.assertEqual(self.judge(machine), ("alike", ((0, 0, 1, 0),)))
        self.assertEqual(self.judge((machine[0], machine[1], machine[2], (0, 0)))[0], "drift")

    def test_machines_without_useful_states(self):
        for machine in (STUCK, (("a",), (NONE,), ((((0, 1),),),), (NONE,))):
            self.assertEqual(rounds(machine), ("alike", ()))
            self.assertIs(is_alike(machine, ()), True)
            self.assertIs(is_alike(machine, ((0, 0, 0, 0),)), False)
            self.assertIs(is_drift(machine, ((), ("a",), ((0,), (0,), (0, 0), (0, 0)))), False)


class AlikePaperTest(unittest.TestCase):
    # From (0, 0) one comes to (0, 1) and (1, 1), but not back.
    machine = (("a", "b"), (0, NONE), ((((0, 1), (1, 3)), ()), (((1, 1),), ((1, 4),))), (0, 0))
    paper = ((0, 0, 2, 0), (0, 1, 1, 5), (1, 0, 1, -5), (1, 1, 0, 2))

    def changed(self, at, row):
        return self.paper[:at] + (row,) + self.paper[at + 1:]

    def test_right_papers(self):
        self.assertIs(is_alike(self.machine, self.paper), True)
        for at, row in ((0, (0, 0, 99, -7)), (1, (0, 1, 2, -2)), (2, (1, 0, 1, 0)), (3, (1, 1, -3, 2))):
            self.assertIs(is_alike(self.machine, self.changed(at, row)), True, row)

    def test_the_pairs_that_are_together(self):
        for machine in random_machines(15, 25, states=3):
            pairs = sorted(pairs_together(free_machine(machine)))
            paper = tuple([(p, q, 0, 0) for p, q in pairs])
            self.assertIs(is_alike(free_machine(machine), paper), True)
            self.assertEqual(is_alike(free_machine(machine), paper + ((9, 9, 0, 0),)), False)
            for at in range(len(paper)):
                self.assertIs(is_alike(free_machine(machine), paper[:at] + paper[at + 1:]), False)

    def test_one_thing_changed(self):
        for at, row in enumerate(self.paper):
            self.assertIs(is_alike(self.machine, self.paper[:at] + self.paper[at + 1:]), False)
            self.assertIs(is_alike(self.machine, self.paper[:at] + (row,) + self.paper[at:]), False)
            self.assertIs(is_alike(self.machine, self.changed(at, (row[0], 2) + row[2:])), False)
        for at, row in ((3, (1, 1, 3, 2)), (0, (0, 0, 0, 0)), (0, (0, 0, -1, 0)), (3, (1, 1, 1, 2)), (1, (0, 1, 2, 2))):
            self.assertIs(is_alike(self.machine, self.changed(at, row)), False, row)
        other = (self.paper[1], self.paper[0]) + self.paper[2:]
        self.assertIs(is_alike(self.machine, other), False)
        self.assertIs(is_alike(self.machine, ()), False)

    def test_a_pair_twice_with_other_zones(self):
        twice = self.paper[:3] + ((1, 1, -1, 2),) + self.paper[3:]
        self.assertIs(is_alike(self.machine, twice), False)

    def test_heights_in_one_zone(self):
        right = ((0, 0, 0, 0), (0, 1, 0, 7), (1, 0, 0, 7), (1, 1, 0, 0))
        self.assertIs(is_alike(SWAPPING, right), True)
        for at in range(4):
            for change in (1, -1):
                p, q, zone, height = right[at]
                paper = right[:at] + ((p, q, zone, height + change),) + right[at + 1:]
                self.assertIs(is_alike(SWAPPING, paper), False)
                paper = right[:at] + ((p, q, zone + change, height),) + right[at + 1:]
                self.assertIs(is_alike(SWAPPING, paper), False)
        dear = (("a",), (0, 3), ((((1, 2),),), (((0, 4),),)), (0, 0))
        self.assertIs(is_alike(dear, right), False)
        self.assertIs(is_alike(dear, ((0, 0, 0, 0), (0, 1, 0, 7), (1, 0, 0, 5), (1, 1, 0, 0))), True)
        self.assertIs(is_alike(dear, ((0, 0, 0, 0), (0, 1, 0, 7), (1, 0, 0, 9), (1, 1, 0, 0))), False)
        self.assertIs(is_alike(dear, ((0, 0, 0, 0), (0, 1, 0, 0), (1, 0, 0, -2), (1, 1, 0, 0))), True)

    def test_no_paper_where_rounds_drift_apart(self):
        for heights in itertools.product((-1, 0, 1), repeat=2):
            for zones in itertools.product((0, 1), repeat=4):
                rows = [(0, 0, zones[0], 0), (0, 1, zones[1], heights[0])]
                rows += [(1, 0, zones[2], heights[1]), (1, 1, zones[3], 0)]
                self.assertIs(is_alike(COUNTER, tuple(rows)), False)


class DriftPaperTest(unittest.TestCase):
    # By a from 0 to both 1 and 2; there rounds of two letters, for 2 and for 3.
    machine = (("a", "b"), (0, NONE, NONE, 0), (
        (((1, 1), (2, 1)), ()),
        (((1, 1),), ((1, 1),)),
        (((2, 1),), ((2, 2),)),
        (((3, 0),), ()),
    ), (NONE, 0, 0, NONE))
    ahead = ("a",)
    turn = ("a", "b")
    ways = ((0, 1), (0, 2), (1, 1, 1), (2, 2, 2))

    def judge(self, ahead, turn, ways):
        return is_drift(self.machine, (ahead, turn, ways))

    def with_way(self, at, row):
        return self.judge(self.ahead, self.turn, self.ways[:at] + (row,) + self.ways[at + 1:])

    def test_right_papers(self):
        self.assertIs(self.judge(self.ahead, self.turn, self.ways), True)
        self.assertIs(self.judge(self.ahead, ("b",), ((0, 1), (0, 2), (1, 1), (2, 2))), True)
        self.assertIs(self.judge(self.ahead, ("b",), ((0, 2), (0, 1), (2, 2), (1, 1))), True)

    def test_rows_that_are_none(self):
        for at in (0, 1):
            for row in ((), (0,), (0, 0), (1, 1), (0, 1, 1), (0, 4), (-4, 1), (1, 2), (0, 3), (3, 3)):
                self.assertIs(self.with_way(at, row), False, row)
        for at in (2, 3):
            for row in ((), (1,), (1, 1), (2, 2), (1, 1, 1, 1), (1, 1, 2), (0, 1, 1), (3, 3, 3), (-3, -3, -3), (8, 8, 8)):
                self.assertIs(self.with_way(at, row), False, row)

    def test_rounds_from_other_states(self):
        self.assertIs(self.with_way(2, (2, 2, 2)), False)
        self.assertIs(self.with_way(3, (1, 1, 1)), False)
        self.assertIs(self.judge(self.ahead, self.turn, ((0, 1), (0, 2), (2, 2, 2), (1, 1, 1))), False)

    def test_rounds_have_to_lead_back(self):
        machine = (("a",), (0, 0), ((((0, 1), (1, 2)),), (((0, 3), (1, 1)),)), (0, 0))
        self.assertIs(is_drift(machine, ((), ("a", "a"), ((0,), (1,), (0, 1, 0), (1, 1, 1)))), True)
        self.assertIs(is_drift(machine, ((), ("a", "a"), ((0,), (1,), (0, 1, 1), (1, 1, 1)))), False)
        self.assertIs(is_drift(machine, ((), ("a", "a"), ((0,), (1,), (0, 1, 0), (1, 1, 0)))), False)
        self.assertIs(is_drift(machine, ((), ("a", "a"), ((0,), (1,), (1, 1, 0), (1, 1, 1)))), False)

    def test_rounds_that_cost_the_same(self):
        self.assertIs(self.judge(self.ahead, ("a",), ((0, 1), (0, 2), (1, 1), (2, 2))), False)
        self.assertIs(self.judge(self.ahead, ("b",), ((0, 1), (0, 1), (1, 1), (1, 1))), False)

    def test_the_second_log_is_not_empty(self):
        self.assertIs(self.judge(self.ahead, (), ((0, 1), (0, 2), (1,), (2,))), False)

    def test_other_logs(self):
        self.assertIs(self.judge(("b",), self.turn, self.ways), False)
        self.assertIs(self.judge(("c",), self.turn, self.ways), False)
        self.assertIs(self.judge(self.ahead, ("a", "c"), self.ways), False)
        self.assertIs(self.judge((), self.turn, self.ways), False)

    def test_both_begin_with_a_first_fare(self):
        for one, other in (((1,), (2,)), ((0,), (1,)), ((2,), (0,))):
            ways = (one, other, (1, 1, 1), (2, 2, 2))
            self.assertIs(self.judge((), self.turn, ways), False)
        machine = (self.machine[0], (0, 0, NONE, 0)) + self.machine[2:]
        ways = ((1,), (2,), (1, 1), (2, 2))
        self.assertIs(is_drift(machine, ((), ("b",), ways)), False)
        self.assertIs(is_drift(machine, ((), ("b",), ((2,), (1,), (2, 2), (1, 1)))), False)
        machine = (self.machine[0], (0, 0, 0, 0)) + self.machine[2:]
        self.assertIs(is_drift(machine, ((), ("b",), ways)), True)

    def test_states_that_are_not_useful(self):
        # State 3 has a first fare and a free round, but leads to no last fare.
        ways = ((0, 1), (3, 3), (1, 1), (3, 3))
        self.assertIs(self.judge(("a",), ("a",), ways), False)
        self.assertIs(self.judge(("a",), ("a",), ((3, 3), (0, 1), (3, 3), (1, 1))), False)
        machine = self.machine[:3] + ((NONE, 0, 0, 5),)
        self.assertIs(is_drift(machine, (("a",), ("a",), ways)), True)

    def test_logs_of_up_to_four_hundred_letters(self):
        for many, right in ((400, True), (401, False)):
            ways = ((0,) * 1, (1,), (0,) * (many + 1), (1,) * (many + 1))
            self.assertIs(is_drift(COUNTER, ((), ("a",) * many, ways)), right)
            ways = ((0,) * (many + 1), (1,) * (many + 1), (0, 0), (1, 1))
            self.assertIs(is_drift(COUNTER, (("a",) * many, ("a",), ways)), right)

    def test_one_thing_changed_in_papers_that_are_told(self):
        for machine in random_machines(16, 60, states=5, letters=2):
            kind, paper = rounds(machine)
            if kind != "drift":
                continue
            ahead, turn, ways = paper
            for at in range(4):
                self.assertIs(is_drift(machine, (ahead, turn, ways[:at] + (ways[at][1:],) + ways[at + 1:])), False)
                self.assertIs(is_drift(machine, (ahead, turn, ways[:at] + (ways[at] + (9,),) + ways[at + 1:])), False)
            self.assertIs(is_drift(machine, (ahead, (), ways)), False)
            self.assertIs(is_drift(machine, (ahead, turn, ways[:2] + (ways[2], ways[2]))), False)
            self.assertIs(is_drift(machine, (ahead + ("a",), turn, ways)), False)
            self.assertIs(is_drift(machine, (ahead, turn, (ways[1], ways[0]) + ways[2:])), ways[0][-1] == ways[1][-1])
