"""Tests of faremachines.limits ([7.1], [7.2], [7.5])."""

import itertools
import random
import unittest
from unittest import mock

from faremachines import limits
from faremachines.errors import Missing, NotAllowed, TooLarge
from faremachines.greatest import first_log
from faremachines.limits import closed_paper, combined, is_limited, judge_closed, letter_table, repeated, value_of
from faremachines.machines import fare_of
from tests import tables
from tests.samples import COUNTER, FORK, HALF_USEFUL, NONE, PLAIN, SINGLE, STUCK, SWAPPING, answer_of, logs_up_to
from tests.samples import random_machine, random_machines, variants

ALONE = (("a",), (0,), ((((0, 0),),),), (5,))
TABLES = [[[int]]]


def free_machines(seed, many, states=3, letters=2):
    """Return a list of machines many of whose moves are free, and most of whose states can begin and end."""
    source = random.Random(seed)
    machines = []
    for machine in random_machines(seed, many, states, letters):
        free = source.choice([0.4, 0.7, 0.9])
        moves = []
        for rows in machine[2]:
            costs = [[(after, 0 if source.random() < free else fare) for after, fare in row] for row in rows]
            moves.append(tuple([tuple(row) for row in costs]))
        firsts = tuple([source.choice([NONE, 0, fare]) for fare in machine[1]])
        machines.append((machine[0], firsts, tuple(moves), machine[3]))
    return machines


def steady_tables(seed, many):
    """Return a list of tables, with whether they are steady."""
    source = random.Random(seed)
    found = []
    for _ in range(many):
        size = source.randrange(1, 4)
        table = tuple([tuple([source.choice([0, 1, 2, 3, 3]) for _ in range(size)]) for _ in range(size)])
        for _ in range(source.randrange(6)):
            table = tables.put_together(table, table)
        found.append(table)
    return found


class TableTest(unittest.TestCase):
    def test_the_examples(self):
        both = combined(letter_table(COUNTER, "a"), letter_table(COUNTER, "b"))
        self.assertEqual(letter_table(COUNTER, "a"), ((1, 3), (3, 0)))
        self.assertEqual((both, repeated(both), value_of(COUNTER, repeated(both))), (((1, 3), (3, 1)), ((2, 3), (3, 2)), 2))

    def test_letters(self):
        for machine in random_machines(300, 60) + [HALF_USEFUL, FORK]:
            for letter in machine[0]:
                self.assertEqual(letter_table(machine, letter), tables.table_by(machine, letter))
            for text in ("e", "", "aa", "state"):
                with self.assertRaises(NotAllowed):
                    letter_table(machine, text)

    def test_marks(self):
        moves = ((((0, 0), (1, 1)),), (((1, 99),),))
        machine = (("a",), (0, 0), moves, (0, 0))
        self.assertEqual(letter_table(machine, "a"), ((0, 1), (3, 1)))
        # The greater one of both marks counts, and the least one over all states.
        for one, other in itertools.product(range(4), repeat=2):
            self.assertEqual(combined(((one,),), ((other,),)), ((max(one, other),),))
            self.assertEqual(combined(((one, 3), (3, 3)), ((other, 2), (0, 0))), ((max(one, other), max(one, 2)), (3, 3)))
        for mark, turns in ((0, 0), (1, 2), (2, 2), (3, 3)):
            self.assertEqual(repeated(((mark,),)), ((turns,),))

    def test_combined_in_either_grouping(self):
        source = random.Random(301)
        known = [table for table in steady_tables(302, 200) if len(table) == 3]
        for _ in range(100):
            one, two, three = [source.choice(known) for _ in range(3)]
            self.assertEqual(combined(one, two), tables.put_together(one, two))
            self.assertEqual(combined(combined(one, two), three), combined(one, combined(two, three)))

    def test_only_steady_tables_are_repeated(self):
        steady = {True: 0, False: 0}
        for table in steady_tables(303, 300):
            known = tables.again_and_again(table)
            self.assertEqual(answer_of(repeated, table), "NotAllowed" if known is None else known)
            steady[known is not None] += 1
            if known is not None:
                self.assertEqual(repeated(known), known)
        self.assertGreater(min(steady.values()), 20, steady)

    def test_values(self):
        for mark, first, last in itertools.product(range(4), (NONE, 0, 7), (NONE, 0, 7)):
            machine = (("a",), (first,), (((),),), (last,))
            marks = [3 if fare == NONE else 1 if fare else 0 for fare in (first, last)]
            self.assertEqual(value_of(machine, ((mark,),)), max([mark, *marks]))
        for machine in random_machines(304, 60):
            for table in steady_tables(305, 60):
                if len(table) == len(machine[1]):
                    self.assertEqual(value_of(machine, table), tables.worth(machine, table))


class LimitedTest(unittest.TestCase):
    def test_the_examples(self):
        self.assertIs(is_limited(COUNTER), False)
        self.assertEqual(closed_paper(ALONE), (((0,),),))
        self.assertIs(is_limited(SINGLE), False)
        self.assertIs(is_limited(SWAPPING), False)

    def test_no_log_can_be_gone(self):
        for machine in (STUCK, (("a",), (NONE,), ((((0, 3),),),), (0,)), (("a",), (0,), ((((0, 3),),),), (NONE,))):
            self.assertIs(is_limited(machine), True)
            self.assertIs(judge_closed(machine, closed_paper(machine)), True)

    def test_against_all_tables(self):
        found = {True: 0, False: 0}
        for machine in free_machines(306, 300) + [PLAIN, FORK, HALF_USEFUL]:
            known = tables.all_tables(machine)
            if known is None:
                continue
            limited = all(tables.worth(machine, table) != 2 for table in known)
            self.assertIs(is_limited(machine), limited, machine)
            found[limited] += 1
            if limited:
                self.assertEqual(closed_paper(machine), tuple(sorted(known)))
                self.assertIs(judge_closed(machine, closed_paper(machine)), True)
            else:
                with self.assertRaises(Missing):
                    closed_paper(machine)
        self.assertGreater(min(found.values()), 25, found)

    def test_against_the_fares(self):
        for machine in free_machines(307, 120):
            limited = answer_of(is_limited, machine)
            dearest = max([fare_of(machine, log) for log in logs_up_to(machine[0], 6)])
            if limited is False:
                log = answer_of(first_log, machine, dearest + 1)
                self.assertTrue(log == "TooLarge" or fare_of(machine, log) > dearest, machine)

    def test_more_tables_than_there_may_be(self):
        told = {True: 0, False: 0}
        for machine in free_machines(308, 200):
            known = tables.all_tables(machine)
            if known is None or any(tables.worth(machine, table) == 2 for table in known):
                continue
            for most in (1, 2, 5, 9):
                with mock.patch.object(limits, "MAX_TABLES", most):
                    large = len(known) > most
                    self.assertEqual(answer_of(is_limited, machine), "TooLarge" if large else True)
                    self.assertEqual(answer_of(closed_paper, machine), "TooLarge" if large else tuple(sorted(known)))
                    told[large] += 1
        self.assertGreater(min(told.values()), 40, told)

    def test_more_than_300_tables(self):
        # Three letters give all ways to put states into others' places: 256 of 4 states, 3125 of 5.
        for many, large in ((4, False), (5, True)):
            turn, swap = [(k + 1) % many for k in range(many)], [1, 0, *range(2, many)]
            join = [0, 0, *range(2, many)]
            moves = tuple([tuple([((targets[k], 0),) for targets in (turn, swap, join)]) for k in range(many)])
            machine = (("a", "b", "c"), (0,) * many, moves, (0,) * many)
            if large:
                with self.assertRaises(TooLarge):
                    is_limited(machine)
                with self.assertRaises(TooLarge):
                    closed_paper(machine)
            else:
                paper = closed_paper(machine)
                self.assertEqual((len(paper), judge_closed(machine, paper)), (256, True))

    def test_large_machines(self):
        source = random.Random(309)
        kinds = set()
        for _ in range(40):
            machine = random_machine(source, 8, source.choice([1, 2, 4]), source.choice([0.1, 0.2, 0.5]), 1)
            limited = answer_of(is_limited, machine)
            kinds.add(limited)
            if limited is True:
                self.assertIs(judge_closed(machine, closed_paper(machine)), True)
        self.assertEqual(kinds, {True, False, "TooLarge"})


class JudgeTest(unittest.TestCase):
    def test_the_examples(self):
        self.assertIs(judge_closed(ALONE, (((0,),),)), True)
        self.assertIs(judge_closed(ALONE, ()), False)

    def test_tables_of_other_sizes_and_marks(self):
        for paper, right in (
            ((((0,),), ((1,),)), False), ((((0,),), ((3,),)), True), ((((0,),), ((4,),)), False), ((((-1,),), ((0,),)), False),
            (((), ((0,),)), False), ((((),), ((0,),)), False), ((((0,),), ((0,), (0,))), False),
            ((((0,),), ((0, 0),)), False), ((((0,),), ((0,),)), False), ((((3,),), ((0,),)), False), ((((3,),),), False),
            ((((0,),), ((2,),)), False), ((((0,),), ((2,),), ((3,),)), False),
        ):
            self.assertIs(judge_closed(ALONE, paper), right, paper)
            self.assertIs(tables.is_closed(ALONE, paper), right)
        # All else is right with a mark that is none, since it stands where no way leads.
        nowhere = (("a",), (0, 0), (((),), ((),)), (0, 0))
        none = ((3, 3), (3, 3))
        for mark, right in ((3, None), (4, False), (5, False), (2, False), (-1, False), (1, True), (0, True)):
            paper = tuple(sorted([none, ((3, mark), (3, 3))]))
            self.assertIs(judge_closed(nowhere, paper), False if right is None else right)
        self.assertIs(judge_closed(nowhere, (none,)), True)
        # Where no log can be gone, no value is 2.
        self.assertIs(judge_closed((("a",), (0,), ((((0, 1),),),), (NONE,)), (((1,),), ((2,),))), True)
        self.assertIs(judge_closed((("a",), (0,), ((((0, 1),),),), (NONE,)), (((1,),),)), False)
        self.assertIs(judge_closed((("a",), (0,), ((((0, 1),),),), (0,)), (((1,),), ((2,),))), False)

    def test_papers_with_one_thing_changed(self):
        source = random.Random(310)
        judged = {True: 0, False: 0}
        for machine in free_machines(311, 150):
            known = tables.all_tables(machine, 25)
            if known is None:
                continue
            paper = tuple(sorted(known))
            papers = variants(TABLES, paper)
            papers = [paper] + source.sample(papers, min(len(papers), 12))
            papers += [tuple(sorted(set(changed))) for changed in papers]
            # More tables than have to come up, with all that comes up from them.
            size = range(len(machine[1]))
            more = {tuple([tuple([source.randrange(4) for _ in size]) for _ in size])} | set(paper)
            for _ in range(6):
                more |= {tables.put_together(one, other) for one in more for other in more} if len(more) < 40 else set()
                more |= {tables.again_and_again(table) for table in more} - {None}
            papers.append(tuple(sorted(more)))
            for changed in papers:
                right = tables.is_closed(machine, changed)
                self.assertIs(judge_closed(machine, changed), right, (machine, changed))
                judged[right] += 1
        self.assertGreater(min(judged.values()), 100, judged)

    def test_one_product_is_missing(self):
        # Each order of 3 states is a product of a turn and an exchange; without any one of them it is not closed.
        turn, swap = ((3, 0, 3), (3, 3, 0), (0, 3, 3)), ((3, 0, 3), (0, 3, 3), (3, 3, 0))
        moves = tuple([tuple([((table[p].index(0), 0),) for table in (turn, swap)]) for p in range(3)])
        machine = (("a", "b"), (0, 0, 0), moves, (0, 0, 0))
        paper = closed_paper(machine)
        self.assertEqual((len(paper), judge_closed(machine, paper)), (6, True))
        for at in range(6):
            self.assertIs(judge_closed(machine, paper[:at] + paper[at + 1:]), False)

    def test_papers_of_more_than_300_tables(self):
        # No log can be gone, so that all tables may be there.
        for size, marks, many in ((2, range(4), 256), (3, (0, 3), 512)):
            moves = tuple([(((state, 0),),) for state in range(size)])
            machine = (("a",), (NONE,) * size, moves, (0,) * size)
            rows = itertools.product(marks, repeat=size)
            paper = tuple(itertools.product(rows, repeat=size))
            self.assertEqual((len(paper), judge_closed(machine, paper)), (many, True))
            self.assertIs(judge_closed(machine, paper[:100] + paper[101:]), False)
            self.assertIs(judge_closed(machine, paper[1:]), False)
