"""Tests of faremachines.counts ([2.1], [2.2])."""

import unittest
from unittest import mock

from faremachines import counts
from faremachines.counts import at_most, is_table
from faremachines.errors import NotAllowed, TooLarge
from tests.samples import COUNTER, HALF_USEFUL, LETTERS, NONE, PLAIN, SINGLE, STUCK
from tests.samples import closed_useful, logs_up_to, random_machines, rows_along, useful_states, ways_of


def counts_behind(machine, many, log):
    """Return the counts behind a log, by all its rows."""
    rows = rows_along(machine, log, useful_states(machine))
    ends = [row[-1] for row, _ in rows if machine[1][row[0]] != NONE]
    return tuple([min(ends.count(state), many + 1) for state in range(len(machine[1]))])


def step(machine, many, row, at):
    """Return the tuple to which a letter leads, as [2.2] tells."""
    good = closed_useful(machine)
    found = []
    for state in range(len(row)):
        before = [row[other] for other in good if state in dict(machine[2][other][at])]
        found.append(min(sum(before), many + 1) if state in good else 0)
    return tuple(found)


def ring_that_fills(size):
    """Return a machine in which a goes round a ring, c puts a copy on it, and d adds one to state 0."""
    moves = []
    for state in range(size):
        after = state + 1 if state + 1 < size else 1
        turn = ((0, 0),) if state == 0 else ((after, 0),)
        copied = ((0, 0), (1, 0)) if state == 0 else (((state, 0),) if state > 1 else ())
        added = ((0, 0),) if state in (0, size - 1) else ((state, 0),)
        moves.append((turn, copied, added))
    fares = (0,) + (NONE,) * (size - 1)
    return ("a", "c", "d"), fares, tuple(moves), fares


def many_starts(size):
    """Return a machine of so many states in each of which a log may begin, and end."""
    return ("a",), (0,) * size, ((((0, 1),),),) * size, (0,) * size


class AtMostTest(unittest.TestCase):
    def test_constants(self):
        self.assertEqual((counts.MAX_WAYS_ASKED, counts.MAX_TABLE), (5, 1000))

    def test_the_examples(self):
        self.assertEqual((at_most(PLAIN, 1), at_most(PLAIN, 2)), ((False, ("b",)), (False, ("b", "b"))))
        answers = at_most(SINGLE, 1), is_table(SINGLE, 1, ((1,),)), is_table(SINGLE, 1, ((0,), (1,)))
        self.assertEqual(answers, ((True, ((1,),)), True, True))

    def test_against_all_ways(self):
        told = []
        for machine in random_machines(17, 80, states=3):
            logs = logs_up_to(machine[0], 4)
            for many in range(1, 6):
                answer, shown = at_most(machine, many)
                more = [log for log in logs if len(ways_of(machine, log)) > many]
                told.append((answer, many))
                if answer:
                    self.assertEqual(more, [])
                    self.assertIs(is_table(machine, many, shown), True)
                    self.assertEqual(shown, tuple(sorted(set(shown))))
                elif more:
                    self.assertEqual(shown, more[0])
                else:
                    self.assertGreater(len(shown), 4)
        self.assertEqual(set(told), {(answer, many) for answer in (True, False) for many in range(1, 6)})

    def test_the_fewest_tuples(self):
        for machine in random_machines(18, 60, states=3, letters=2):
            for many in (1, 3, 5):
                answer, table = at_most(machine, many)
                if answer and len(table) <= 4:
                    # A log with fewer letters than there are tuples leads to each of them.
                    logs = logs_up_to(machine[0], len(table) - 1)
                    self.assertEqual(set(table), {counts_behind(machine, many, log) for log in logs})
                    for at in range(len(table)):
                        self.assertIs(is_table(machine, many, table[:at] + table[at + 1:]), False)

    def test_the_empty_log(self):
        for many in range(1, 6):
            self.assertEqual(at_most(many_starts(many + 1), many), (False, ()))
            self.assertEqual(at_most(many_starts(many), many)[0], True)

    def test_the_first_log_in_the_order_of_letters(self):
        rows = (((0, 0),), ((0, 0), (1, 0)))
        for letters, order in (((0, 1), ("b",)), ((1, 0), ("a",)), ((1, 1), ("a",)), ((0, 0), None)):
            moves = tuple([rows[at] for at in letters])
            machine = (("a", "b"), (0, NONE), (moves, (((1, 0),), ((1, 0),))), (0, 0))
            answer = at_most(machine, 1)
            self.assertEqual(answer[1] if order else answer[0], order if order else True)
        # The order is that of the letters' indexes, not that of the alphabet.
        machine = (("z", "a"), (0, NONE), ((((0, 0), (1, 0)),) * 2, ((), ())), (0, 0))
        self.assertEqual(at_most(machine, 1), (False, ("z",)))

    def test_states_that_are_not_useful(self):
        for many in range(1, 6):
            self.assertEqual(at_most(HALF_USEFUL, many), (True, ((0, 0, 0), (1, 0, 0))))
            self.assertEqual(at_most(STUCK, many), (True, ((0, 0),)))
        # From state 0 more and more rows lead to state 1, but none of them is a way.
        machine = (("a",), (0, 0), ((((0, 0), (1, 0)),), (((1, 0),),)), (0, NONE))
        self.assertEqual(at_most(machine, 1), (True, ((1, 0),)))
        # State 1 would lead to the end, but no log leads to it.
        machine = (("a",), (0, NONE), ((((0, 0),),), (((0, 0), (1, 0)),)), (0, 0))
        self.assertEqual(at_most(machine, 1), (True, ((1, 0),)))

    def test_how_many_there_are(self):
        # Behind n letters a there are n rows to state 1; b leads from there to the end.
        machine = (("a", "b"), (0, NONE, NONE), (
            (((0, 0), (1, 0)), ()),
            (((1, 0),), ((2, 0),)),
            ((), ()),
        ), (NONE, NONE, 0))
        for many in range(1, 6):
            self.assertEqual(at_most(machine, many), (False, ("a",) * (many + 1) + ("b",)))

    def test_integers_are_cut(self):
        # As above, but far from the end, so that there are more rows to state 1 than are counted.
        machine = (("a", "b"), (0, NONE, NONE, NONE), (
            (((0, 0), (1, 0)), ()),
            (((1, 0),), ((2, 0),)),
            ((), ((3, 0),)),
            ((), ((3, 0),)),
        ), (NONE, NONE, NONE, 0))
        self.assert_met(machine, 1)
        self.assert_met(machine, 2)

    def test_too_large(self):
        for many, size in ((4, 8), (5, 8), (5, 7)):
            with self.assertRaises(TooLarge):
                at_most(ring_that_fills(size), many)
        for many, length in ((1, 7), (2, 10), (3, 13), (4, 16)):
            answer, log = at_most(ring_that_fills(7), many)
            self.assertEqual((answer, len(log)), (False, length))
            self.assertEqual(log[0], "c")

    def assert_met(self, machine, many):
        """Assert that the limit is met just by as many tuples as the logs ahead of the first one have."""
        answer, log = at_most(machine, many)
        self.assertEqual(answer, False)
        met = set()
        for other in logs_up_to(machine[0], len(log)):
            if other == log:
                break
            row = tuple([1 if fare != NONE else 0 for fare in machine[1]])
            for letter in other:
                row = step(machine, many, row, machine[0].index(letter))
            met.add(row)
        with mock.patch.object(counts, "MAX_TABLE", len(met)):
            self.assertEqual(at_most(machine, many), (False, log))
        with mock.patch.object(counts, "MAX_TABLE", len(met) - 1):
            with self.assertRaises(TooLarge):
                at_most(machine, many)

    def test_just_so_many_tuples(self):
        self.assert_met(ring_that_fills(4), 2)
        self.assert_met(ring_that_fills(3), 3)
        self.assert_met(ring_that_fills(2), 5)

    def test_just_so_many_tuples_in_a_table(self):
        rows = tuple([(((state + 1, 1),),) for state in range(7)]) + ((((0, 1),),),)
        ring = (("a",), (0,) + (NONE,) * 7, rows, (0,) * 8)
        self.assertEqual(len(at_most(ring, 1)[1]), 8)
        with mock.patch.object(counts, "MAX_TABLE", 8):
            self.assertEqual(len(at_most(ring, 1)[1]), 8)
        with mock.patch.object(counts, "MAX_TABLE", 7):
            with self.assertRaises(TooLarge):
                at_most(ring, 1)

    def test_numbers_out_of_range(self):
        for many in (0, 6, -1, 100):
            with self.assertRaises(NotAllowed):
                at_most(SINGLE, many)
            with self.assertRaises(NotAllowed):
                is_table(SINGLE, many, ((1,),))
            with self.assertRaises(NotAllowed):
                at_most(ring_that_fills(8), many)


class IsTableTest(unittest.TestCase):
    # By a from state 0 to both others, by b back; at most two ways.
    machine = (("a", "b"), (0, NONE, NONE), ((((1, 0), (2, 0)), ()), ((), ((0, 0),)), ((), ())), (NONE, 1, 1))
    table = ((0, 0, 0), (0, 1, 1), (1, 0, 0))

    def test_right_tables(self):
        self.assertEqual(at_most(self.machine, 2), (True, self.table))
        for many in (2, 3, 4, 5):
            self.assertIs(is_table(self.machine, many, self.table), True)
        self.assertIs(is_table(self.machine, 1, self.table), False)

    def test_tuples_that_are_not_needed(self):
        self.assertIs(is_table(self.machine, 2, ((0, 0, 0), (0, 0, 1), (0, 1, 1), (1, 0, 0))), True)
        self.assertIs(is_table(self.machine, 2, ((0, 0, 0), (0, 0, 2), (0, 1, 1), (1, 0, 0))), True)
        self.assertIs(is_table(self.machine, 2, ((0, 0, 0), (0, 0, 3), (0, 1, 1), (1, 0, 0))), False)
        self.assertIs(is_table(self.machine, 2, ((0, 0, 0), (0, 1, 1), (0, 1, 2), (1, 0, 0))), False)
        # The tuple (2, 0, 0) leads to (0, 2, 2), which is too much, and is lacking.
        self.assertIs(is_table(self.machine, 2, ((0, 0, 0), (0, 1, 1), (1, 0, 0), (2, 0, 0))), False)
        self.assertIs(is_table(self.machine, 5, ((0, 0, 0), (0, 1, 1), (1, 0, 0), (2, 0, 0))), False)
        more = ((0, 0, 0), (0, 1, 1), (0, 2, 2), (1, 0, 0), (2, 0, 0))
        self.assertIs(is_table(self.machine, 4, more), True)
        self.assertIs(is_table(self.machine, 3, more), False)

    def test_tables_that_are_not_right(self):
        for at, row in enumerate(self.table):
            others = self.table[:at] + self.table[at + 1:]
            self.assertIs(is_table(self.machine, 2, others), False)
            self.assertIs(is_table(self.machine, 2, self.table[:at] + (row,) + self.table[at:]), False)
            for state in range(3):
                changed = row[:state] + (row[state] + 1,) + row[state + 1:]
                self.assertIs(is_table(self.machine, 2, tuple(sorted(others + (changed,)))), False)
        self.assertIs(is_table(self.machine, 2, ()), False)

    def test_tables_out_of_order(self):
        for at in (0, 1):
            rows = list(self.table)
            rows[at], rows[at + 1] = rows[at + 1], rows[at]
            self.assertIs(is_table(self.machine, 2, tuple(rows)), False)

    def test_tuples_of_another_form(self):
        for row in ((), (0,), (0, 0), (0, 0, 0, 0), (2, 0, 0, 0), (-1, 0, 0), (0, 0, -1), (0, -1, 1), (4, 0, 0), (7, 7, 7)):
            for many in (2, 3):
                self.assertIs(is_table(self.machine, many, tuple(sorted(self.table + (row,)))), False)

    def test_the_greatest_integers(self):
        loop = (("a", "b"), (0, NONE), ((((0, 0),), ()), ((), ())), (0, NONE))
        for many in range(1, 6):
            rows = tuple([(number, 0) for number in range(many + 1)])
            self.assertIs(is_table(loop, many, rows), True)
            self.assertIs(is_table(loop, many, rows + ((many + 1, 0),)), False)
            # The integer of state 1, which is not useful, has the same greatest value.
            self.assertIs(is_table(loop, many, ((0, 0), (0, many + 1), (1, 0))), True)
            self.assertIs(is_table(loop, many, ((0, 0), (0, many + 2), (1, 0))), False)
            self.assertIs(is_table(loop, many, ((0, -1), (0, 0), (1, 0))), False)

    def test_sums_of_two_states(self):
        # By b from state 0 to 1 and 2, by a from both to 3.
        machine = (LETTERS[:2], (0, NONE, NONE, NONE), (
            ((), ((1, 0), (2, 0))),
            (((3, 0),), ()),
            (((3, 0),), ()),
            ((), ()),
        ), (0, NONE, NONE, 0))
        table = ((0, 0, 0, 0), (0, 0, 0, 2), (0, 1, 1, 0), (1, 0, 0, 0))
        self.assertEqual(at_most(machine, 2), (True, table))
        self.assertEqual(at_most(machine, 1), (False, ("b", "a")))
        self.assertIs(is_table(machine, 2, table), True)
        more = ((0, 0, 0, 0), (0, 0, 0, 2), (0, 0, 2, 0), (0, 1, 0, 0), (0, 1, 1, 0), (0, 2, 0, 0), (1, 0, 0, 0))
        self.assertIs(is_table(machine, 2, more), False)
        self.assertIs(is_table(machine, 2, ((0, 0, 0, 0), (0, 0, 0, 1)) + more[1:]), True)
        self.assertIs(is_table(machine, 2, ((0, 0, 0, 0), (0, 0, 0, 1)) + more[1:3] + ((0, 1, 2, 0),) + more[4:]), False)
        # States that are not met are not useful: nothing leads on from them.
        apart = (machine[0], machine[1], (((), ()),) + machine[2][1:], machine[3])
        self.assertIs(is_table(apart, 2, ((0, 0, 0, 0), (0, 3, 3, 0), (1, 0, 0, 0))), True)
        self.assertIs(is_table(apart, 2, ((0, 0, 0, 0), (0, 3, 3, 3), (1, 0, 0, 0))), False)

    def test_states_that_are_not_useful(self):
        self.assertIs(is_table(HALF_USEFUL, 1, ((0, 0, 0), (1, 0, 0))), True)
        self.assertIs(is_table(HALF_USEFUL, 1, ((0, 0, 0), (1, 1, 0))), False)
        # What is told of state 1, which is not useful, leads to nothing.
        self.assertIs(is_table(HALF_USEFUL, 1, ((0, 0, 0), (0, 2, 0), (1, 0, 0))), True)
        self.assertIs(is_table(STUCK, 1, ((0, 0),)), True)
        self.assertIs(is_table(STUCK, 1, ()), False)

    def test_no_table_where_there_are_more_ways(self):
        for many in range(1, 6):
            rows = [(p, q) for p in range(many + 2) for q in range(many + 2)]
            self.assertIs(is_table(PLAIN, many, tuple(rows)), False)
            rows = [row for row in rows if row[1] <= many]
            self.assertIs(is_table(PLAIN, many, tuple(rows)), False)

    def test_the_tables_of_other_numbers(self):
        answer, table = at_most(COUNTER, 2)
        self.assertEqual((answer, table), (True, ((1, 1),)))
        self.assertIs(is_table(COUNTER, 5, table), True)
        self.assertIs(is_table(COUNTER, 1, table), False)
