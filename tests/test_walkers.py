"""Tests of faremachines.walkers ([4.1] to [4.3])."""

import itertools
import random
import unittest

from faremachines.errors import Missing, NotAllowed
from faremachines.machines import fare_of
from faremachines.walkers import alive_states, check_walker, judge_lower, judge_upper, lower_paper, regret
from faremachines.walkers import upper_paper, walker_fare, walker_way
from tests.samples import COUNTER, FORK, FORK_WALKER, HALF_USEFUL, NONE, PLAIN, SINGLE, STUCK
from tests.samples import known_fare, levelled_machine, logs_up_to, random_machines, reached, rows_along, step_fare, ways_of

# By a, state 0 goes round for 1, and state 1 for nothing; both begin and end.
ROUND = (("a",), (0, 0), ((((0, 1),),), (((1, 0),),)), (0, 0))
DEAR = ((0, (0,)),)
FREE = ((1, (0,)),)


def known_alive(machine):
    """Return the ascending list of the alive states, from logs of up to as many letters as there are states."""
    size = range(len(machine[1]))
    ends = [state for state in size if machine[3][state] != NONE]
    for _ in size:
        ends = [s for s in size if s in ends or any(t in ends for row in machine[2][s] for t, _ in row)]
    return ends


def is_walker(machine, walker):
    """Tell whether a tuple is a walker, as the definition says it."""
    if not 1 <= len(walker) <= 16:
        return False
    for state, targets in walker:
        if state not in range(len(machine[1])) or len(targets) != len(machine[0]):
            return False
        for letter, target in zip(machine[0], targets):
            if target == NONE:
                continue
            if target not in range(len(walker)) or walker[target][0] not in range(len(machine[1])):
                return False
            if step_fare(machine, state, letter, walker[target][0]) == NONE:
                return False
    return machine[1][walker[0][0]] != NONE


def known_way(machine, walker, log):
    """Return the way of a walker, or None."""
    spot = 0
    way = [walker[0][0]]
    for letter in log:
        spot = walker[spot][1][machine[0].index(letter)]
        if spot == NONE:
            return None
        way.append(walker[spot][0])
    return tuple(way) if machine[3][way[-1]] != NONE else None


def paid_for(machine, walker, log):
    """Return the fare of a walker, or NONE."""
    way = known_way(machine, walker, log)
    return NONE if way is None else dict([(row, fare) for fare, row in ways_of(machine, log)])[way]


def spot_behind(machine, walker, log):
    """Return the spot of a walker behind a log, or None."""
    spot = 0
    for letter in log:
        spot = walker[spot][1][machine[0].index(letter)]
        if spot == NONE:
            return None
    return spot


def is_upper(machine, walker, r, paper):
    """Tell whether an upper paper is right, as the definition says it."""
    alive = known_alive(machine)
    numbers = {(spot, state): number for spot, state, number in paper}
    if list(paper) != sorted(paper) or len(numbers) != len(paper):
        return False
    if any(spot not in range(len(walker)) or state not in alive for spot, state in numbers):
        return False
    own = machine[1][walker[0][0]]
    for state in alive:
        if machine[1][state] != NONE and numbers.get((0, state), -10 ** 9) < own - machine[1][state]:
            return False
    for (spot, state), number in numbers.items():
        for letter, after in itertools.product(machine[0], alive):
            fare = step_fare(machine, state, letter, after)
            if fare == NONE:
                continue
            target = walker[spot][1][machine[0].index(letter)]
            if target == NONE:
                return False
            paid = step_fare(machine, walker[spot][0], letter, walker[target][0])
            if numbers.get((target, after), -10 ** 9) < number + paid - fare:
                return False
        last = machine[3][walker[spot][0]]
        if machine[3][state] != NONE and (last == NONE or number + last - machine[3][state] > r):
            return False
    return True


def is_lower(machine, walker, r, paper):
    """Tell whether a lower paper is right, as the definition says it."""
    logs = paper[1:]
    if any(letter not in machine[0] for log in logs for letter in log) or sum([len(log) for log in logs]) > 400:
        return False
    if paper[0] == "log" and len(logs) == 1:
        fare, paid = known_fare(machine, logs[0]), paid_for(machine, walker, logs[0])
        return fare != NONE and (paid == NONE or paid > fare + r)
    if paper[0] != "grows" or len(logs) != 3:
        return False
    first, ring, last = logs
    if ring == () or paid_for(machine, walker, first + last) == NONE:
        return False
    spot = spot_behind(machine, walker, first)
    if spot is None or spot_behind(machine, walker, first + ring) != spot:
        return False
    row = [walker[spot_behind(machine, walker, first + ring[:at])][0] for at in range(len(ring) + 1)]
    paid = sum([step_fare(machine, row[at], letter, row[at + 1]) for at, letter in enumerate(ring)])
    begun = reached(machine, [s for s in range(len(machine[1])) if machine[1][s] != NONE], first)
    for state in begun:
        backs = [fare for found, fare in rows_along(machine, ring) if found[0] == found[-1] == state]
        ends = any(machine[3][after] != NONE for after in reached(machine, [state], last))
        if ends and any(fare < paid for fare in backs):
            return True
    return False


def random_walker(source, machine, size):
    """Return a walker of so many spots that gives up now and then, or None if no state has a first fare."""
    begun = [state for state in range(len(machine[1])) if machine[1][state] != NONE]
    if not begun:
        return None
    states = [source.choice(begun)] + [source.randrange(len(machine[1])) for _ in range(size - 1)]
    spots = []
    for state in states:
        targets = []
        for letter in machine[0]:
            fitting = [at for at in range(size) if step_fare(machine, state, letter, states[at]) != NONE]
            targets.append(source.choice(fitting) if fitting and source.random() < 0.95 else NONE)
        spots.append((state, tuple(targets)))
    return tuple(spots)


def random_walks(seed, many, states, spots, letters=2):
    """Return a list of pairs of a machine and a walker of up to so many spots."""
    source = random.Random(seed)
    found = []
    for machine in random_machines(seed, many, states, letters):
        walker = random_walker(source, machine, source.randrange(1, spots + 1))
        if walker is not None:
            found.append((machine, walker))
    return found


def levelled_walks(seed, many, states, spots):
    """Return a list of pairs as random_walks, of machines in which no round is dearer than another one."""
    heights = (3, 0, 5, 1, 4, 2, 0, 5)
    return [(levelled_machine(machine, heights), walker) for machine, walker in random_walks(seed, many, states, spots)]


class AliveTest(unittest.TestCase):
    def test_against_the_definition(self):
        for machine in random_machines(70, 100, states=8, letters=3):
            self.assertEqual(alive_states(machine), known_alive(machine))

    def test_states_that_are_alive(self):
        # A state that is never met may be alive, one that is met need not be.
        self.assertEqual(alive_states(HALF_USEFUL), [0, 2])
        self.assertEqual(alive_states(STUCK), [1])
        self.assertEqual(alive_states(PLAIN), [0, 1])
        self.assertEqual(alive_states((("a",), (0,), ((((0, 1),),),), (NONE,))), [])

    def test_a_new_list_each_time(self):
        found = alive_states(PLAIN)
        self.assertIs(type(found), list)
        found.clear()
        self.assertEqual(alive_states(PLAIN), [0, 1])


class WalkerTest(unittest.TestCase):
    def refuse(self, machine, walker):
        with self.assertRaises(NotAllowed, msg=walker):
            check_walker(machine, walker)
        self.assertFalse(is_walker(machine, walker))

    def test_how_many_spots(self):
        for many in (1, 2, 15, 16):
            self.assertIsNone(check_walker(SINGLE, ((0, (0,)),) * many))
        self.refuse(SINGLE, ((0, (0,)),) * 17)
        self.refuse(SINGLE, ((0, (NONE,)),) * 17)
        self.refuse(SINGLE, ())

    def test_states_of_spots(self):
        self.assertIsNone(check_walker(FORK, FORK_WALKER))
        for state in (-2, -1, 4, 8):
            self.refuse(FORK, ((state, (NONE, NONE)),))
            self.refuse(FORK, FORK_WALKER + ((state, (NONE, NONE)),))
        # A spot that is never met is one, too.
        self.assertIsNone(check_walker(FORK, FORK_WALKER + ((1, (2, NONE)),)))
        self.refuse(FORK, FORK_WALKER + ((1, (1, NONE)),))

    def test_targets(self):
        for targets in ((), (0,), (0, 0, 0), (NONE, NONE, NONE)):
            self.refuse(PLAIN, ((0, targets),))
        self.assertIsNone(check_walker(PLAIN, ((0, (0, NONE)),)))
        self.refuse(PLAIN, ((0, (NONE, 0)),))
        for target in (-2, 1, 2, 16):
            self.refuse(PLAIN, ((0, (target, NONE)),))
        self.assertIsNone(check_walker(PLAIN, ((0, (0, 1)), (1, (1, 0)))))
        self.refuse(PLAIN, ((0, (1, 1)), (1, (1, 0))))
        self.refuse(PLAIN, ((0, (0, 0)), (1, (1, 0))))
        self.refuse(PLAIN, ((0, (0, 1)), (1, (0, 0))))
        self.refuse(PLAIN, ((0, (0, 1)), (2, (NONE, NONE))))

    def test_the_start_has_a_first_fare(self):
        self.refuse(FORK, ((1, (1, 1)), (3, (1, 1))))
        self.refuse(FORK, (FORK_WALKER[1], FORK_WALKER[0], FORK_WALKER[2]))
        self.refuse(HALF_USEFUL, ((2, (NONE, NONE)),))
        self.assertIsNone(check_walker(HALF_USEFUL, ((1, (NONE, NONE)),)))
        self.refuse((("a",), (NONE,), (((),),), (0,)), ((0, (NONE,)),))

    def test_against_the_definition(self):
        judged = {True: 0, False: 0}
        source = random.Random(71)
        for machine in random_machines(72, 300, states=2):
            size = source.randrange(1, 4)
            targets = range(-1, size + 1)
            walker = tuple([
                (source.randrange(0, 2), tuple([source.choice(targets) for _ in machine[0]])) for _ in range(size)
            ])
            right = is_walker(machine, walker)
            judged[right] += 1
            if right:
                self.assertIsNone(check_walker(machine, walker))
            else:
                self.refuse(machine, walker)
        self.assertGreater(min(judged.values()), 20)

    def test_ways_and_fares(self):
        for machine, walker in random_walks(73, 80, 3, 4):
            check_walker(machine, walker)
            for log in logs_up_to(machine[0], 4):
                self.assertEqual(walker_way(machine, walker, log), known_way(machine, walker, log))
                self.assertEqual(walker_fare(machine, walker, log), paid_for(machine, walker, log))

    def test_the_example(self):
        self.assertEqual(walker_fare(FORK, FORK_WALKER, ("b", "a", "a")), 3)
        self.assertEqual(walker_way(FORK, FORK_WALKER, ("b", "a", "a")), (0, 0, 2, 3))

    def test_walkers_that_give_up(self):
        walker = ((0, (0, 1)), (1, (NONE, NONE)))
        self.assertEqual(walker_way(PLAIN, walker, ("a", "b")), (0, 0, 1))
        self.assertEqual(walker_fare(PLAIN, walker, ("a", "b")), 8)
        for log in (("a", "b", "a"), ("b", "b"), ("b", "b", "a")):
            self.assertIsNone(walker_way(PLAIN, walker, log))
            self.assertEqual(walker_fare(PLAIN, walker, log), NONE)
        # The last state has no last fare.
        self.assertIsNone(walker_way(PLAIN, walker, ("a",)))
        self.assertEqual(walker_fare(PLAIN, walker, ()), NONE)

    def test_logs_that_are_none(self):
        walker = ((0, (NONE, NONE)),)
        for log in (("c",), ("a", "c"), ("a",) * 401):
            with self.assertRaises(NotAllowed):
                walker_way(PLAIN, walker, log)
            with self.assertRaises(NotAllowed):
                walker_fare(PLAIN, walker, log)
        self.assertEqual(walker_fare(ROUND, DEAR, ("a",) * 400), 400)


class RegretTest(unittest.TestCase):
    def judge(self, machine, walker):
        """Assert that for each r just one paper is there, right, and refused as the other kind; return the regret."""
        try:
            least = regret(machine, walker)
        except Missing:
            least = None
        tried = (0, 1, 7, 50, 1000) if least is None else tuple(range(min(least, 5))) + (least, least + 1, least + 90)
        if least:
            tried += (least - 1,)
        for r in tried:
            if least is None or r < least:
                with self.assertRaises(Missing):
                    upper_paper(machine, walker, r)
                paper = lower_paper(machine, walker, r)
                self.assertIs(judge_lower(machine, walker, r, paper), True, (machine, walker, r))
                self.assertLessEqual(sum([len(log) for log in paper[1:]]), 400)
            else:
                with self.assertRaises(Missing):
                    lower_paper(machine, walker, r)
                paper = upper_paper(machine, walker, r)
                self.assertIs(judge_upper(machine, walker, r, paper), True, (machine, walker, r))
                for lesser in range(max(0, least - 3), least):
                    self.assertIs(judge_upper(machine, walker, lesser, paper), False)
        return least

    def test_the_examples(self):
        self.assertEqual(self.judge(FORK, FORK_WALKER), 2)
        self.assertIs(judge_lower(FORK, FORK_WALKER, 1, ("log", ("a", "a"))), True)
        paper = ((0, 0, 0), (1, 1, 0), (1, 2, 0), (2, 3, 2))
        self.assertIs(judge_upper(FORK, FORK_WALKER, 2, paper), True)
        self.assertIs(judge_lower(FORK, FORK_WALKER, 0, ("grows", ("a",), ("b",), ())), False)

    def test_small_regrets(self):
        self.assertEqual(self.judge(ROUND, FREE), 0)
        self.assertEqual(self.judge(SINGLE, ((0, (0,)),)), 0)
        self.assertIsNone(self.judge(ROUND, DEAR))
        self.assertIsNone(self.judge(COUNTER, ((0, (0, 0)),)))
        # A walker that pays less than other ways has no regret below 0.
        dear = (("a",), (0, 9), ((((0, 1),),), (((1, 1),),)), (0, 0))
        self.assertEqual(self.judge(dear, ((0, (0,)),)), 0)
        self.assertEqual(self.judge(dear, ((1, (0,)),)), 9)

    def test_walkers_that_have_no_fare(self):
        # It gives up, where the log goes on to an end.
        self.assertIsNone(self.judge(SINGLE, ((0, (NONE,)),)))
        self.assertIsNone(self.judge(SINGLE, ((0, (1,)), (0, (2,)), (0, (NONE,)))))
        # It ends in a state without a last fare.
        machine = (("a",), (0, 0), ((((1, 0),),), (((0, 0),),)), (NONE, 3))
        self.assertIsNone(self.judge(machine, ((0, (1,)), (1, (0,)))))
        # It gives up where no log that can be gone goes on.
        machine = (("a", "b"), (0, NONE), ((((0, 1),), ((1, 0),)), (((1, 1),), ((1, 1),))), (0, NONE))
        self.assertEqual(self.judge(machine, ((0, (0, NONE)),)), 0)
        self.assertEqual(self.judge(machine, ((0, (0, 1)), (1, (NONE, NONE)))), 0)

    def test_machines_in_which_no_log_can_be_gone(self):
        self.assertEqual(self.judge(STUCK, ((0, (NONE,)),)), 0)
        self.assertEqual(upper_paper(STUCK, ((0, (0,)),), 0), ())
        self.assertIs(judge_upper(STUCK, ((0, (NONE,)),), 0, ()), True)

    def test_against_short_logs(self):
        seen = set()
        for machine, walker in random_walks(74, 150, 2, 2) + levelled_walks(83, 250, 2, 2):
            least = self.judge(machine, walker)
            more = [0]
            for log in logs_up_to(machine[0], 4):
                fare, paid = known_fare(machine, log), paid_for(machine, walker, log)
                if fare != NONE:
                    more.append(10 ** 9 if paid == NONE else paid - fare)
            if least is not None:
                # There are 4 pairs of a spot and a state, so that the dearest log has 3 letters at most.
                self.assertEqual(least, max(more), (machine, walker))
            seen.add(least)
        self.assertIn(None, seen)
        self.assertIn(0, seen)
        self.assertGreater(len(seen), 8)

    def test_papers_are_right_by_the_definitions(self):
        for machine, walker in random_walks(75, 80, 3, 3) + levelled_walks(84, 80, 3, 3):
            for r in (0, 1, 5, 40):
                uppers, lowers = [], []
                try:
                    uppers.append(upper_paper(machine, walker, r))
                except Missing:
                    lowers.append(lower_paper(machine, walker, r))
                for paper in uppers:
                    self.assertTrue(is_upper(machine, walker, r, paper), (machine, walker, r, paper))
                for paper in lowers:
                    short = sum([len(log) for log in paper[1:]]) <= 8
                    self.assertTrue(not short or is_lower(machine, walker, r, paper), (machine, walker, r, paper))

    def test_larger_walkers(self):
        found = set()
        for machine, walker in random_walks(76, 80, 8, 16, letters=4) + levelled_walks(85, 80, 8, 16):
            found.add(self.judge(machine, walker) is None)
        self.assertEqual(found, {True, False})

    def test_walkers_of_large_machines_that_do_not_give_up(self):
        source = random.Random(77)
        for _ in range(6):
            firsts = tuple([source.randrange(9) for _ in range(8)])
            rows = [tuple([tuple([(t, source.choice([0, 1, 99])) for t in range(8)])] * 2) for _ in range(8)]
            machine = (("a", "b"), firsts, tuple(rows), firsts)
            walker = random_walker(source, machine, 16)
            walker = tuple([(state, tuple([max(0, target) for target in targets])) for state, targets in walker])
            self.judge(machine, walker)

    def test_long_rings(self):
        # The walker goes round 16 spots for 1 each; a ring of seven states costs 1 each, but once 0 or 2.
        ring = [(((at + 1, 1),),) for at in range(1, 7)]
        walker = tuple([(0, ((at + 1) % 16,)) for at in range(16)])
        for cost, least in ((1, 0), (2, 0), (0, None)):
            rows = ((((0, 1),),),) + tuple(ring) + ((((1, cost),),),)
            machine = (("a",), (0, 0) + (NONE,) * 6, rows, (0,) * 8)
            self.assertEqual(self.judge(machine, walker), least)
        word, first, turn, last = lower_paper(machine, walker, 3)
        self.assertEqual((word, len(turn) % 112), ("grows", 0))

    def test_a_lost_walker_behind_a_long_log(self):
        # State 7 ends a line of eight states; the walker goes round for as long as it can.
        rows = tuple([(((at + 1, 0),),) for at in range(6)]) + ((((6, 0),),), (((7, 0),),))
        machine = (("a",), (0,) + (NONE,) * 6 + (0,), rows, (NONE,) * 6 + (0, 0))
        walker = tuple([(7, (at + 1,)) for at in range(15)]) + ((7, (NONE,)),)
        self.assertIsNone(self.judge(machine, walker))
        word, log = lower_paper(machine, walker, 10 ** 9)
        self.assertEqual((word, len(log)), ("log", 16))

    def test_regrets_below_0(self):
        paper = upper_paper(ROUND, FREE, 0)
        for r in (-1, -100):
            for call in (upper_paper, lower_paper):
                for walker in (FREE, DEAR):
                    with self.assertRaises(NotAllowed):
                        call(ROUND, walker, r)
            for wrong in (paper, ()):
                with self.assertRaises(NotAllowed):
                    judge_upper(ROUND, FREE, r, wrong)
            for wrong in (("log", ("a",)), ("grows", (), ("a",), ()), ("log", ("x",)), ("", ())):
                with self.assertRaises(NotAllowed):
                    judge_lower(ROUND, DEAR, r, wrong)


class UpperPaperTest(unittest.TestCase):
    paper = ((0, 0, 0), (1, 1, 0), (1, 2, 0), (2, 3, 2))

    def judge(self, *rows):
        return judge_upper(FORK, FORK_WALKER, 2, rows)

    def test_one_thing_changed(self):
        self.assertIs(self.judge(*self.paper), True)
        self.assertIs(judge_upper(FORK, FORK_WALKER, 1, self.paper), False)
        self.assertIs(judge_upper(FORK, FORK_WALKER, 3, self.paper), True)
        for at, (spot, state, number) in enumerate(self.paper):
            others = [(spot, state, number - 1), (spot, state, number + 3), (spot, 4, number), (spot, -1, number)]
            others += [(3, state, number), (-1, state, number)]
            for other in others:
                self.assertIs(self.judge(*self.paper[:at], other, *self.paper[at + 1:]), False, other)
            self.assertIs(self.judge(*self.paper[:at], *self.paper[at + 1:]), False)
            self.assertIs(self.judge(*self.paper[:at + 1], *self.paper[at:]), False)
            self.assertIs(self.judge(*self.paper[:at], (spot, state, -5), *self.paper[at:]), False)
        self.assertIs(self.judge(*reversed(self.paper)), False)
        # Spot -1 is none, although it would be the last one as an index.
        self.assertIs(self.judge((-1, 3, -9), *self.paper), False)
        self.assertIs(self.judge(*self.paper, (3, 3, -9)), False)
        self.assertIs(self.judge(), False)

    def test_greater_numbers_and_more_pairs(self):
        self.assertIs(judge_upper(FORK, FORK_WALKER, 9, ((0, 0, 7), (1, 1, 7), (1, 2, 7), (2, 3, 9))), True)
        self.assertIs(judge_upper(FORK, FORK_WALKER, 8, ((0, 0, 7), (1, 1, 7), (1, 2, 7), (2, 3, 9))), False)
        # A pair that is never met has to be right, too.
        self.assertIs(self.judge((0, 0, 0), (1, 1, 0), (1, 2, 0), (1, 3, -7), (2, 3, 2)), True)
        self.assertIs(self.judge((0, 0, 0), (1, 1, 0), (1, 2, 0), (1, 3, 1), (2, 3, 2)), False)

    def test_states_that_are_not_alive(self):
        machine = (("a",), (0, 0), ((((0, 0), (1, 0)),), (((1, 0),),)), (0, NONE))
        walker = ((0, (0,)),)
        self.assertIs(judge_upper(machine, walker, 0, ((0, 0, 0),)), True)
        self.assertIs(judge_upper(machine, walker, 0, ((0, 0, 0), (0, 1, 0))), False)

    def test_against_the_definition(self):
        source = random.Random(78)
        judged = {True: 0, False: 0}
        for machine, walker in random_walks(79, 150, 2, 2):
            pairs = list(itertools.product(range(len(walker)), range(len(machine[1]))))
            try:
                papers = [upper_paper(machine, walker, regret(machine, walker))]
            except Missing:
                papers = []
            for _ in range(20):
                chosen = sorted(source.sample(pairs, source.randrange(len(pairs) + 1)))
                papers.append(tuple([(spot, state, source.randrange(-3, 4)) for spot, state in chosen]))
            for paper in papers[:1] * 4:
                at = source.randrange(len(paper)) if paper else 0
                change = source.choice([-1, 1])
                papers.append(paper[:at] + tuple([(p, s, n + change) for p, s, n in paper[at:at + 1]]) + paper[at + 1:])
            for paper, r in itertools.product(papers, (0, 2, 9)):
                right = is_upper(machine, walker, r, paper)
                self.assertIs(judge_upper(machine, walker, r, paper), right, (machine, walker, r, paper))
                judged[right] += 1
        self.assertGreater(min(judged.values()), 100)


class LowerPaperTest(unittest.TestCase):
    def test_logs(self):
        for r, right in ((0, True), (1, True), (2, False), (99, False)):
            self.assertIs(judge_lower(FORK, FORK_WALKER, r, ("log", ("a", "a"))), right)
        for log in ((), ("a",), ("b",), ("a", "b"), ("a", "c"), ("c",), ("a", "a", "c")):
            self.assertIs(judge_lower(FORK, FORK_WALKER, 0, ("log", log)), False)
        for word in ("grows", "", "logs"):
            self.assertIs(judge_lower(FORK, FORK_WALKER, 0, (word, ("a", "a"))), False)
        # A log that cannot be gone shows nothing, one for which the walker has no fare all.
        walker = ((0, (NONE, NONE)),)
        self.assertIs(judge_lower(PLAIN, walker, 0, ("log", ("a",))), True)
        self.assertIs(judge_lower(PLAIN, walker, 10 ** 9, ("log", ())), True)
        self.assertIs(judge_lower(STUCK, ((0, (NONE,)),), 0, ("log", ("a",))), False)

    def test_growing(self):
        for r in (0, 1, 10 ** 9):
            self.assertIs(judge_lower(ROUND, DEAR, r, ("grows", (), ("a",), ())), True)
            self.assertIs(judge_lower(ROUND, DEAR, r, ("grows", ("a",), ("a", "a"), ("a",))), True)
            self.assertIs(judge_lower(ROUND, FREE, r, ("grows", (), ("a",), ())), False)
            self.assertIs(judge_lower(ROUND, DEAR, r, ("grows", (), (), ())), False)
            self.assertIs(judge_lower(ROUND, DEAR, r, ("log", (), ("a",), ())), False)
            self.assertIs(judge_lower(ROUND, DEAR, r, ("log", ("a", "a"), ("a",), ())), False)
            self.assertIs(judge_lower(ROUND, DEAR, r, ("", (), ("a",), ())), False)
        for at in range(3):
            logs = [("a",), ("a",), ("a",)]
            self.assertIs(judge_lower(ROUND, DEAR, 0, ("grows", *logs)), True)
            logs[at] = ("b",)
            self.assertIs(judge_lower(ROUND, DEAR, 0, ("grows", *logs)), False)

    def test_what_growing_needs(self):
        # The walker goes round two spots for 1 each, state 1 is free.
        two = ((0, (1,)), (0, (0,)))
        self.assertIs(judge_lower(ROUND, two, 0, ("grows", (), ("a",), ())), False)
        self.assertIs(judge_lower(ROUND, two, 0, ("grows", (), ("a", "a"), ())), True)
        # It gives up behind the ring, or within it, or behind the first log.
        for walker, first, turn, last, right in (
            (((0, (1,)), (0, (1,))), ("a",), ("a",), (), True),
            (((0, (1,)), (0, (NONE,))), ("a",), ("a",), (), False),
            (((0, (1,)), (0, (NONE,))), (), ("a", "a"), (), False),
            (((0, (1,)), (0, (NONE,))), ("a", "a"), ("a",), (), False),
        ):
            self.assertIs(judge_lower(ROUND, walker, 0, ("grows", first, turn, last)), right)
        # The state has to be met from a first fare, and to lead to a last one.
        for firsts, lasts, right in (((0, 0), (0, 0), True), ((0, NONE), (0, 0), False), ((0, 0), (0, NONE), False)):
            machine = (ROUND[0], firsts, ROUND[2], lasts)
            self.assertIs(judge_lower(machine, DEAR, 0, ("grows", (), ("a",), ())), right)
        # The walker needs a last fare, too, behind the first and the last log.
        machine = (("a", "b"), (0, 0), ((((0, 1),), ((1, 1),)), (((1, 0),), ((1, 0),))), (NONE, 0))
        walker = ((0, (0, 1)), (1, (1, 1)))
        self.assertIs(judge_lower(machine, walker, 0, ("grows", (), ("a",), ())), False)
        self.assertIs(judge_lower(machine, walker, 0, ("grows", (), ("a",), ("b",))), True)
        self.assertIs(judge_lower(machine, walker, 0, ("grows", (), ("a",), ("a",))), False)
        self.assertIs(judge_lower(machine, walker, 0, ("grows", ("b",), ("a",), ())), False)

    def test_the_ring_leads_to_itself_for_less(self):
        # From 1 to 2 for nothing, and back for a fare: less than 2, or not.
        for fare, right in ((0, True), (1, True), (2, False), (3, False)):
            rows = ((((0, 1),),), (((2, 0),),), (((1, fare),),))
            machine = (("a",), (0, 0, NONE), rows, (0, 0, 0))
            self.assertIs(judge_lower(machine, DEAR, 0, ("grows", (), ("a", "a"), ())), right)
            self.assertIs(judge_lower(machine, DEAR, 0, ("grows", (), ("a",), ())), False)

    def test_logs_that_are_too_long_together(self):
        self.assertIs(judge_lower(ROUND, DEAR, 399, ("log", ("a",) * 400)), True)
        self.assertIs(judge_lower(ROUND, DEAR, 400, ("log", ("a",) * 400)), False)
        self.assertIs(judge_lower(ROUND, DEAR, 0, ("log", ("a",) * 401)), False)
        for first, turn, last, right in (
            (200, 100, 100, True), (201, 100, 100, False), (200, 101, 100, False), (200, 100, 101, False),
            (0, 400, 0, True), (0, 401, 0, False), (399, 1, 0, True), (400, 1, 0, False), (0, 1, 399, True),
            (0, 1, 400, False), (300, 300, 300, False),
        ):
            paper = ("grows", ("a",) * first, ("a",) * turn, ("a",) * last)
            self.assertIs(judge_lower(ROUND, DEAR, 0, paper), right)

    def test_against_the_definition(self):
        source = random.Random(80)
        judged = {True: 0, False: 0}
        for machine, walker in random_walks(81, 150, 2, 2) + [(ROUND, DEAR), (COUNTER, ((0, (0, 0)),))]:
            logs = logs_up_to(machine[0], 2) + [("c",)]
            papers = [("log", log) for log in logs]
            papers += [("grows", *[source.choice(logs) for _ in range(3)]) for _ in range(40)]
            for paper, r in itertools.product(papers, (0, 3)):
                right = is_lower(machine, walker, r, paper)
                self.assertIs(judge_lower(machine, walker, r, paper), right, (machine, walker, r, paper))
                judged[right] += 1
        self.assertGreater(min(judged.values()), 500)

    def test_no_paper_of_both_kinds(self):
        for machine, walker in random_walks(82, 60, 2, 2):
            for r in (0, 4):
                lowers = [("log", log) for log in logs_up_to(machine[0], 3)]
                lowers += [("grows", *logs) for logs in itertools.product(logs_up_to(machine[0], 1), repeat=3)]
                try:
                    upper_paper(machine, walker, r)
                except Missing:
                    continue
                self.assertFalse(any(judge_lower(machine, walker, r, paper) for paper in lowers))
                fares = [(fare_of(machine, log), walker_fare(machine, walker, log)) for _, log in lowers[:4]]
                self.assertTrue(all(fare == NONE or fare <= paid <= fare + r for fare, paid in fares))
