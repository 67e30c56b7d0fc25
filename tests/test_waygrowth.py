"""Tests of faremachines.waygrowth ([2.3] to [2.5])."""

import itertools
import math
import random
import unittest

from faremachines.errors import Missing
from faremachines.machines import count_ways
from faremachines.waygrowth import growth_of_ways, growth_paper, is_growth_paper, is_level_paper, level_paper
from tests.samples import COUNTER, FORK, HALF_USEFUL, NONE, PLAIN, ROWS, SINGLE, STUCK, SWAPPING
from tests.samples import closed_useful, logs_up_to, random_machines, reached, rows_along


def counted_logs(machine):
    """Return the set of the tables of how many rows lead from state to state along logs, 2 if there are more."""
    good = closed_useful(machine)
    size = range(len(machine[1]))

    def table(at):
        return tuple([tuple([int(t in good and t in dict(machine[2][s][at])) if s in good else 0 for t in size])
                      for s in size])

    def combined(one, other):
        return tuple([tuple([min(2, sum([one[s][k] * other[k][t] for k in size])) for t in size]) for s in size])

    letters = [table(at) for at in range(len(machine[0]))]
    found, queue = set(letters), list(letters)
    while queue:
        one = queue.pop()
        for letter in letters:
            longer = combined(one, letter)
            if longer not in found:
                found.add(longer)
                queue.append(longer)
    return found


def known_growth(machine):
    """Return the growth and the set of the pairs of a step, from the tables of all logs."""
    tables = counted_logs(machine)
    size = range(len(machine[1]))
    if any(table[s][s] == 2 for table in tables for s in size):
        return ("doubling",), None
    pairs = {(p, q) for table in tables for p in size for q in size
             if p != q and table[p][p] and table[p][q] and table[q][q]}
    leads = {(s, t) for s in size for t in size if s == t or any(table[s][t] for table in tables)}

    def longest(state):
        return max([1 + longest(q) for p, q in pairs if (state, p) in leads], default=0)

    most = max([longest(state) for state in size])
    return (("power", most) if most else ("bounded",)), pairs


def is_growth(machine, paper):
    """Tell whether a growth paper is right, as the definition says it."""
    good = closed_useful(machine)
    if paper[0] == "doubling":
        _, state, log, first, second = paper
        if not set(log) <= set(machine[0]) or len(log) > 400:
            return False
        rows = [row for row, _ in rows_along(machine, log, good) if row[0] == row[-1] == state]
        return first in rows and second in rows and first != second
    steps = paper[1]
    for at, (p, q, log, join) in enumerate(steps):
        if not set(log + join) <= set(machine[0]) or p == q or not {p, q} <= set(good):
            return False
        if not {p, q} <= reached(machine, [p], log) or q not in reached(machine, [q], log):
            return False
        if at + 1 == len(steps) and join != ():
            return False
        if at + 1 < len(steps) and steps[at + 1][0] not in reached(machine, [q], join):
            return False
    return len(steps) > 0


def is_level(machine, pairs, paper):
    """Tell whether a tuple is a right level paper of a machine that is not doubling, with these pairs of steps."""
    good = closed_useful(machine)
    moves = [(s, t) for s in good for row in machine[2][s] for t, _ in row if t in good]
    sound = len(paper) == len(machine[1]) and min(paper) >= 0
    return sound and all(paper[t] <= paper[s] for s, t in moves) and all(paper[q] < paper[p] for p, q in pairs)


def line(many, order=None, dead=0):
    """Return a machine of so many states in a line, each with a free ring, and dead ones beside them.

    By a each state leads to itself and to the next one. The dead ones lead to each state and to one another,
    but no first fare leads to them.
    """
    size = many + dead
    order = list(range(size)) if order is None else order
    rows = [None] * size
    for at in range(size):
        targets = [at] + [at + 1] * (at + 1 < many) if at < many else range(size)
        rows[order[at]] = (tuple(sorted([(order[target], 0) for target in targets])),)
    firsts = tuple([0 if order[0] == state else NONE for state in range(size)])
    lasts = tuple([0 if order[many - 1] == state else NONE for state in range(size)])
    return ("a",), firsts, tuple(rows), lasts


def forward(machine):
    """Return a machine without its moves to lesser states, so that it doubles less often."""
    rows = [tuple([tuple([move for move in row if move[0] >= state]) for row in rows])
            for state, rows in enumerate(machine[2])]
    return machine[0], machine[1], tuple(rows), machine[3]


def changed_tuples(row, others):
    """Return the list of the tuples with one item of a row changed, left out, twice, or one more put behind it."""
    found = []
    for at, item in enumerate(row):
        found.append(row[:at] + row[at + 1:])
        found.append(row[:at] + (item,) + row[at:])
        found.extend([row[:at] + (other,) + row[at + 1:] for other in others if other != item])
    return found + [row + (other,) for other in others]


def changed_papers(machine, paper):
    """Return the list of growth papers with one thing changed."""
    states = tuple(range(-1, len(machine[1]) + 1))
    letters = machine[0] + ("x",)
    found = []
    if paper[0] == "doubling":
        _, state, log, first, second = paper
        found.extend([("doubling", other, log, first, second) for other in states if other != state])
        found.extend([("doubling", state, other, first, second) for other in changed_tuples(log, letters)])
        found.extend([("doubling", state, log, other, second) for other in changed_tuples(first, states)])
        found.extend([("doubling", state, log, first, other) for other in changed_tuples(second, states)])
        return found
    steps = paper[1]
    for at, (p, q, log, join) in enumerate(steps):
        others = [(other, q, log, join) for other in states if other != p]
        others += [(p, other, log, join) for other in states if other != q]
        others += [(p, q, other, join) for other in changed_tuples(log, letters)]
        others += [(p, q, log, other) for other in changed_tuples(join, letters)]
        found.extend([("power", steps[:at] + (other,) + steps[at + 1:]) for other in others])
        found.append(("power", steps[:at] + steps[at + 1:]))
        found.append(("power", steps[:at] + steps[at:at + 1] + steps[at:]))
    return found


class GrowthTest(unittest.TestCase):
    def judge(self, machine):
        """Assert that the papers that are told are right, and are there; return the growth."""
        growth = growth_of_ways(machine)
        if growth == ("bounded",):
            with self.assertRaises(Missing):
                growth_paper(machine)
        else:
            self.assertIs(is_growth_paper(machine, growth_paper(machine)), True, machine)
            self.assertEqual(growth_paper(machine)[0], growth[0])
        if growth == ("doubling",):
            with self.assertRaises(Missing):
                level_paper(machine)
            return growth
        paper = level_paper(machine)
        self.assertIs(is_level_paper(machine, paper), True, machine)
        most = max([paper[state] for state in closed_useful(machine)], default=0)
        self.assertEqual(growth[1:], (most,) if most else ())
        if most:
            self.assertEqual(len(growth_paper(machine)[1]), most)
        else:
            self.assertEqual(paper, (0,) * len(machine[1]))
        return growth

    def test_the_examples(self):
        self.assertEqual(self.judge(PLAIN), ("doubling",))
        self.assertIs(is_growth_paper(PLAIN, ("doubling", 1, ("b", "b"), (1, 0, 1), (1, 1, 1))), True)
        self.assertEqual(self.judge(ROWS), ("power", 1))
        self.assertIs(is_growth_paper(ROWS, ("power", ((0, 1, ("a",), ()),))), True)
        self.assertEqual(level_paper(ROWS), (1, 0))
        self.assertIs(is_level_paper(ROWS, (0, 0)), False)

    def test_machines_whose_growth_is_bounded(self):
        # Each log of COUNTER has two ways, which stay apart; STUCK has none at all.
        for machine in (SINGLE, SWAPPING, COUNTER, STUCK, HALF_USEFUL, FORK):
            self.assertEqual(self.judge(machine), ("bounded",))
        self.assertEqual(self.judge((("a",), (NONE,), (((),),), (NONE,))), ("bounded",))

    def test_powers(self):
        source = random.Random(20)
        for many in range(1, 9):
            machine = line(many)
            self.assertEqual(self.judge(machine), ("power", many - 1) if many > 1 else ("bounded",))
            self.assertEqual(level_paper(machine), tuple(reversed(range(many))))
            self.assertEqual(count_ways(machine, ("a",) * 12), math.comb(12, many - 1))
            for dead in range(1, 9 - many):
                order = list(range(many + dead))
                source.shuffle(order)
                machine = line(many, order, dead)
                self.assertEqual(self.judge(machine), ("power", many - 1) if many > 1 else ("bounded",))

    def test_states_that_are_not_useful(self):
        # State 1 doubles, and state 2 would make a power, if they led to a last fare.
        rows = (
            (((0, 0), (1, 0), (2, 0)), ((0, 0),)),
            (((1, 0), (3, 0)), ()),
            (((2, 0),), ()),
            (((1, 0), (3, 0)), ()),
        )
        for lasts, growth in (
            ((0, NONE, NONE, NONE), ("bounded",)),
            ((0, NONE, 0, NONE), ("power", 1)),
            ((0, 0, NONE, NONE), ("doubling",)),
            ((NONE, NONE, NONE, 0), ("doubling",)),
        ):
            self.assertEqual(self.judge((("a", "b"), (0, NONE, NONE, NONE), rows, lasts)), growth)
        self.assertEqual(self.judge((("a", "b"), (NONE, NONE, 0, NONE), rows, (0, NONE, 0, NONE))), ("bounded",))

    def test_two_ways_that_come_together_again_once_do_not_double(self):
        rows = ((((1, 0), (2, 0)),), (((3, 0),),), (((3, 0),),), (((3, 0),),))
        machine = (("a",), (0, NONE, NONE, NONE), rows, (NONE, NONE, NONE, 0))
        self.assertEqual(self.judge(machine), ("bounded",))
        back = (("a",), machine[1], rows[:3] + ((((0, 0),),),), machine[3])
        self.assertEqual(self.judge(back), ("doubling",))
        self.assertEqual(max([count_ways(back, ("a",) * (2 + 3 * n)) for n in range(5)]), 32)

    def test_rows_that_stay_by_other_letters(self):
        # State 0 stays by a alone, state 1 by b alone: no log leads from both back to them.
        rows = ((((0, 0), (1, 0)), ()), ((), ((1, 0),)))
        self.assertEqual(self.judge((("a", "b"), (0, NONE), rows, (NONE, 0))), ("bounded",))
        rows = ((((0, 0), (1, 0)), ()), (((1, 0),), ((1, 0),)))
        self.assertEqual(self.judge((("a", "b"), (0, NONE), rows, (NONE, 0))), ("power", 1))

    def test_steps_with_logs_and_joins_of_many_letters(self):
        # Two rings of two states, and of three, with a state between them; both are gone round by b.
        rows = (
            ((), ((1, 0),)),
            (((2, 0),), ((0, 0), (3, 0))),
            (((3, 0),), ()),
            ((), ((4, 0),)),
            ((), ((5, 0),)),
            ((), ((3, 0),)),
        )
        machine = (("a", "b"), (0,) + (NONE,) * 5, rows, (NONE,) * 5 + (0,))
        self.assertEqual(self.judge(machine), ("power", 1))
        p, q, log, join = growth_paper(machine)[1][0]
        self.assertEqual((p < 2 < q, len(log) % 6, join), (True, 0, ()))
        without = rows[:1] + ((((2, 0),), ((0, 0),)),) + rows[2:]
        self.assertEqual(self.judge((machine[0], machine[1], without, machine[3])), ("bounded",))

    def test_joins(self):
        # Two lines, one behind the other: by b alone from the end of the first one to the second one.
        rows = (
            (((0, 0), (1, 0)), ()),
            (((1, 0),), ((4, 0),)),
            (((2, 0), (3, 0)), ()),
            (((3, 0),), ()),
            ((), ((2, 0),)),
        )
        machine = (("a", "b"), (0,) + (NONE,) * 4, rows, (NONE, NONE, NONE, 0, NONE))
        self.assertEqual(self.judge(machine), ("power", 2))
        self.assertEqual(growth_paper(machine), ("power", ((0, 1, ("a",), ("b", "b")), (2, 3, ("a",), ()))))
        self.assertEqual(level_paper(machine), (2, 1, 1, 0, 1))

    def test_against_the_tables_of_all_logs(self):
        seen = set()
        machines = random_machines(21, 150, states=3) + random_machines(22, 60, states=4, letters=1)
        for machine in machines + [forward(machine) for machine in machines]:
            growth, _ = known_growth(machine)
            self.assertEqual(self.judge(machine), growth, machine)
            seen.add(growth)
        self.assertEqual(seen, {("bounded",), ("doubling",), ("power", 1), ("power", 2), ("power", 3)})

    def test_papers_of_larger_machines(self):
        seen = set()
        for machine in random_machines(23, 150, states=8, letters=4):
            seen.add(self.judge(machine)[0])
            seen.add(self.judge(forward(machine))[0])
        self.assertEqual(seen, {"bounded", "doubling", "power"})

    def test_the_most_ways_of_a_machine_grow_so(self):
        for machine in random_machines(24, 40, states=3):
            most = [max([count_ways(machine, log) for log in itertools.product(machine[0], repeat=n)])
                    for n in range(9)]
            growth = growth_of_ways(machine)
            if growth == ("doubling",):
                _, _, log, _, _ = growth_paper(machine)
                ways = [max([count_ways(machine, ahead + log * n + behind)
                             for ahead in logs_up_to(machine[0], 2) for behind in logs_up_to(machine[0], 2)])
                        for n in range(7)]
                self.assertTrue(all(found >= 2 ** n for n, found in enumerate(ways)), machine)
            else:
                power = growth[1] if len(growth) > 1 else 0
                # Three states have at most so many ways to be gone through in order.
                self.assertTrue(all(found <= 6 * (n + 1) ** power for n, found in enumerate(most)), machine)


class GrowthPaperTest(unittest.TestCase):
    def test_doubling_with_one_thing_changed(self):
        paper = ("doubling", 1, ("b", "b"), (1, 0, 1), (1, 1, 1))
        self.assertIs(is_growth_paper(PLAIN, paper), True)
        for other in changed_papers(PLAIN, paper):
            self.assertIs(is_growth_paper(PLAIN, other), False, other)
        self.assertIs(is_growth_paper(PLAIN, ("doubling", 1, ("b", "b"), (1, 1, 1), (1, 1, 1))), False)
        self.assertIs(is_growth_paper(PLAIN, ("doubling", 1, ("b", "b"), (1, 1, 1), (1, 0, 1))), True)
        self.assertIs(is_growth_paper(PLAIN, ("doubling", 1, (), (1,), (1,))), False)
        for word in ("power", "", "bounded", "double"):
            self.assertIs(is_growth_paper(PLAIN, (word,) + paper[1:]), False)

    def test_doubling_rows_lead_back(self):
        # From 1 by b to both 0 and 1, but from 0 by b to 1 alone.
        self.assertIs(is_growth_paper(PLAIN, ("doubling", 1, ("b",), (1, 0), (1, 1))), False)
        self.assertIs(is_growth_paper(PLAIN, ("doubling", 0, ("b", "b"), (0, 1, 0), (0, 1, 1))), False)
        self.assertIs(is_growth_paper(PLAIN, ("doubling", 0, ("b", "b"), (1, 0, 1), (1, 1, 1))), False)
        self.assertIs(is_growth_paper(PLAIN, ("doubling", 0, ("b",) * 3, (0, 1, 1, 0), (0, 1, 0, 1))), False)

    def test_doubling_states_are_useful(self):
        rows = ((((1, 0),),), (((1, 0), (2, 0)),), (((1, 0), (2, 0)),))
        paper = ("doubling", 1, ("a", "a"), (1, 1, 1), (1, 2, 1))
        for firsts, lasts, right in (
            ((0, NONE, NONE), (NONE, 0, NONE), True),
            ((0, NONE, NONE), (0, NONE, NONE), False),
            ((NONE, NONE, NONE), (0, 0, 0), False),
            ((NONE, NONE, 5), (NONE, 5, NONE), True),
        ):
            self.assertIs(is_growth_paper((("a",), firsts, rows, lasts), paper), right)

    def test_logs_of_up_to_four_hundred_letters(self):
        full = (("a",), (0, 0), ((((0, 0), (1, 0)),), (((0, 0), (1, 0)),)), (0, 0))
        for many, right in ((400, True), (401, False)):
            paper = ("doubling", 0, ("a",) * many, (0,) * (many + 1), (0, 1) + (0,) * (many - 1))
            self.assertIs(is_growth_paper(full, paper), right)
            self.assertIs(is_growth_paper(ROWS, ("power", ((0, 1, ("a",) * many, ()),))), right)
            steps = ((0, 1, ("a",), ("a",) * many), (1, 2, ("a",), ()))
            self.assertIs(is_growth_paper(line(3), ("power", steps)), right)

    def test_power_with_one_thing_changed(self):
        machine = line(4)
        paper = ("power", ((0, 1, ("a",), ("a",)), (2, 3, ("a", "a"), ())))
        self.assertIs(is_growth_paper(machine, paper), True)
        for wrong in (
            ("power", ()),
            ("power", paper[1][:1]),
            ("power", paper[1][:1] * 2 + paper[1][1:]),
            ("power", paper[1] + paper[1][1:]),
            ("power", (paper[1][1], paper[1][0])),
            ("power", ((0, 1, ("a",), ()), paper[1][1])),
            ("power", ((0, 1, ("a",), ("x",)), paper[1][1])),
            ("power", ((0, 1, (), ("a",)), paper[1][1])),
            ("power", ((0, 0, ("a",), ("a", "a")), paper[1][1])),
            ("power", ((0, 2, ("a",), ()), paper[1][1])),
            ("power", ((1, 0, ("a",), ("a", "a")), paper[1][1])),
            ("power", (paper[1][0], (2, 3, ("a", "a"), ("a",)))),
            ("power", (paper[1][0], (2, 4, ("a", "a"), ()))),
            ("power", (paper[1][0], (2, -1, ("a", "a"), ()))),
            ("power", (paper[1][0], (-2, 3, ("a", "a"), ()))),
            ("doubling", paper[1]),
            ("", paper[1]),
            ("level", paper[1]),
        ):
            self.assertIs(is_growth_paper(machine, wrong), False, wrong)
        self.assertIs(is_growth_paper(machine, ("power", paper[1][1:])), True)
        self.assertIs(is_growth_paper(machine, ("power", ((0, 1, ("a",), ("a",) * 3), paper[1][1]))), True)
        self.assertIs(is_growth_paper(machine, ("power", ((0, 2, ("a", "a"), ()), paper[1][1]))), True)

    def test_a_step_needs_all_three_rows(self):
        # By a from 0 to 0 and 1, by b from 1 to 1: of the three rows, each log lacks one.
        rows = ((((0, 0), (1, 0)), ()), ((), ((1, 0),)))
        machine = (("a", "b"), (0, NONE), rows, (NONE, 0))
        for log in logs_up_to(("a", "b"), 4):
            self.assertIs(is_growth_paper(machine, ("power", ((0, 1, log, ()),))), False)
        # From 0 to 1 and from 1 to 1, but not from 0 to 0.
        machine = (("a",), (0, NONE), ((((1, 0),),), (((1, 0),),)), (NONE, 0))
        self.assertIs(is_growth_paper(machine, ("power", ((0, 1, ("a",), ()),))), False)
        # From 0 to 0 and from 1 to 1, but not from 0 to 1.
        machine = (("a",), (0, 0), ((((0, 0),),), (((1, 0),),)), (NONE, 0))
        self.assertIs(is_growth_paper(machine, ("power", ((0, 1, ("a",), ()),))), False)

    def test_steps_have_useful_states(self):
        paper = ("power", ((0, 1, ("a",), ()),))
        for firsts, lasts, right in (((0, NONE), (NONE, 0), True), ((NONE, 0), (NONE, 0), False),
                                     ((0, NONE), (0, NONE), False), ((0, 0), (0, 0), True)):
            self.assertIs(is_growth_paper((ROWS[0], firsts, ROWS[2], lasts), paper), right)

    def test_steps_of_a_machine_that_doubles(self):
        # Where both states lead to each other, a paper may have any number of steps.
        full = (("a",), (0, 0), ((((0, 0), (1, 0)),), (((0, 0), (1, 0)),)), (0, 0))
        step = (0, 1, ("a",), ("a",))
        self.assertIs(is_growth_paper(full, ("power", (step,) * 20 + ((0, 1, ("a",), ()),))), True)
        self.assertIs(is_growth_paper(full, ("power", (step,) * 20)), False)

    def test_papers_that_are_told_with_one_thing_changed(self):
        judged = {True: 0, False: 0}
        machines = random_machines(25, 60, states=3)
        for machine in machines + [forward(machine) for machine in machines] + [line(3), line(4), ROWS]:
            if growth_of_ways(machine) == ("bounded",):
                continue
            paper = growth_paper(machine)
            for other in [paper] + changed_papers(machine, paper):
                right = is_growth(machine, other)
                self.assertIs(is_growth_paper(machine, other), right, (machine, other))
                judged[right] += 1
        self.assertGreater(min(judged.values()), 100)


class LevelPaperTest(unittest.TestCase):
    def test_against_the_definition(self):
        judged = {True: 0, False: 0}
        for machine in random_machines(26, 120, states=3) + [ROWS, line(3), line(2, [1, 2, 0], 1)]:
            growth, pairs = known_growth(machine)
            for paper in itertools.product(range(-1, 4), repeat=len(machine[1])):
                right = growth != ("doubling",) and is_level(machine, pairs, paper)
                self.assertIs(is_level_paper(machine, paper), right, (machine, paper))
                judged[right] += 1
        self.assertGreater(min(judged.values()), 500)

    def test_one_integer_for_each_state(self):
        for machine in (SINGLE, ROWS, line(3), STUCK):
            paper = level_paper(machine)
            for wrong in (paper[1:], paper + (0,), (5,) + paper, ()):
                self.assertIs(is_level_paper(machine, wrong), False)

    def test_integers_from_0_on(self):
        # State 1 of STUCK is not useful, but has an integer, too.
        self.assertIs(is_level_paper(STUCK, (0, 7)), True)
        self.assertIs(is_level_paper(STUCK, (-1, 0)), False)
        self.assertIs(is_level_paper(STUCK, (0, -1)), False)
        self.assertIs(is_level_paper(ROWS, (0, -1)), False)
        self.assertIs(is_level_paper(ROWS, (9, 8)), True)

    def test_no_paper_where_ways_double(self):
        for paper in itertools.product(range(4), repeat=2):
            self.assertIs(is_level_paper(PLAIN, paper), False)

    def test_moves_lead_to_lesser_integers(self):
        machine = (("a",), (0, NONE), ((((1, 0),),), (((1, 0),),)), (NONE, 0))
        for paper, right in (((0, 0), True), ((1, 0), True), ((3, 3), True), ((0, 1), False), ((2, 3), False)):
            self.assertIs(is_level_paper(machine, paper), right)
        # A move to a state that is not useful may lead to any integer.
        rows = ((((0, 0), (1, 0)),), (((1, 0),),))
        self.assertIs(is_level_paper((("a",), (0, NONE), rows, (0, NONE)), (0, 5)), True)
        self.assertIs(is_level_paper((("a",), (0, NONE), rows, (0, 0)), (0, 5)), False)

    def test_an_integer_lowered(self):
        for many in range(2, 9):
            machine = line(many)
            paper = level_paper(machine)
            for at in range(many):
                lower = paper[:at] + (paper[at] - 1,) + paper[at + 1:]
                self.assertIs(is_level_paper(machine, lower), False)
            self.assertIs(is_level_paper(machine, (paper[0] + 1,) + paper[1:]), True)
