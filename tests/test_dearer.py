"""Tests of faremachines.dearer ([5.6], [5.7])."""

import itertools
import random
import unittest

from faremachines.dearer import is_dearer, is_never, is_same, never_dearer, same_fares
from faremachines.errors import NotAllowed, TooLarge
from faremachines.singles import check_single, least_single
from tests.samples import NONE, cost_of, logs_up_to, random_single, random_singles, renumbered, state_behind, useful_in
from tests.samples import variants

ONE, TWO = (("a",), 5, (((0, 1),),), (0,)), (("a",), 0, (((0, 2),),), (0,))
EMPTY = (("a",), NONE, (), ())
TRIPLES = [(int, int, int)]
AGAINST = ([str], [str], int, [str])


def ring(states, ends, fare=1):
    """Return a single machine of one letter, in which each state leads to the next one, and those that are told end."""
    rows = tuple([(((state + 1) % states, fare),) for state in range(states)])
    return ("a",), 0, rows, tuple([0 if state in ends else NONE for state in range(states)])


def pairs_of(seed, many, states=3, letters=2):
    """Return a list of pairs of single machines with the same letters, many of them alike."""
    source = random.Random(seed)
    pairs = []
    for single in random_singles(seed + 1, many, states, letters):
        other = random_single(source, source.randrange(1, states + 1), len(single[0]), source.choice([0.5, 1]), 3)
        if single[2] and source.random() < 0.7:
            other = renumbered(single, [0] + source.sample(range(1, len(single[2])), len(single[2]) - 1))
            if source.random() < 0.7:
                # One fare is another one, or one last fare is not there.
                lasts = list(other[3])
                at = source.randrange(len(lasts))
                lasts[at] = source.choice([NONE, 0, lasts[at] + 1])
                other = other[:3] + (tuple(lasts),)
            elif source.random() < 0.5:
                other = least_single(single)
        elif source.random() < 0.1:
            other = (single[0], NONE, (), ())
        pairs.append(source.choice([(single, other), (other, single)]))
    return pairs


def behind_pair(first, second, good, others, s, t):
    """Return a list with, for each letter, both useful states behind, None for none, and the fares' difference."""
    found = []
    for (p, f), (q, g) in zip(first[2][s], second[2][t]):
        found.append((p if p in good else None, q if q in others else None, f - g))
    return found


def is_told(first, second, paper):
    """Tell whether triples have different pairs of useful states, and are ascending."""
    pairs = [(s, t) for s, t, _ in paper]
    good, others = useful_in(first), useful_in(second)
    known = all(s in good and t in others for s, t in pairs)
    return known and list(paper) == sorted(paper) and len(set(pairs)) == len(pairs)


def useful_or_none(single):
    """Return the set of the useful states, empty if there are no states."""
    return useful_in(single) if single[2] else set()


def known_same(first, second, paper):
    """Tell whether a paper of sameness is right, as the definition says it."""
    good, others = useful_or_none(first), useful_or_none(second)
    if not good or not others:
        return paper == () and not good and not others
    mores = {(s, t): more for s, t, more in paper}
    if not is_told(first, second, paper) or mores.get((0, 0)) != first[1] - second[1]:
        return False
    for (s, t), more in mores.items():
        one, other = first[3][s], second[3][t]
        if (one == NONE) != (other == NONE) or (one != NONE and more + one - other != 0):
            return False
        for p, q, step in behind_pair(first, second, good, others, s, t):
            if (p is None) != (q is None) or (p is not None and mores.get((p, q)) != more + step):
                return False
    return True


def known_never(first, second, paper):
    """Tell whether a paper that the first machine is never dearer is right, as the definition says it."""
    good, others = useful_or_none(first), useful_or_none(second)
    if paper and not (good and others and is_told(first, second, paper)):
        return False
    mores = {(s, t): more for s, t, more in paper}
    if others and mores.get((0, 0), -10 ** 9) < first[1] - second[1]:
        return False
    for (s, t), more in mores.items():
        one, other = first[3][s], second[3][t]
        if other != NONE and (one == NONE or more + one - other > 0):
            return False
        for p, q, step in behind_pair(first, second, good, others, s, t):
            if q is not None and (p is None or mores.get((p, q), -10 ** 9) < more + step):
                return False
    return True


def known_dearer(first, second, paper):
    """Tell whether a paper against it is right, from the whole log."""
    ahead, turn, times, behind = paper
    if any(letter not in first[0] for log in (ahead, turn, behind) for letter in log) or times < 0:
        return False
    if max(len(ahead), len(turn), len(behind)) > 400 or times > 10 ** 10:
        return False
    for single in (first, second):
        start = state_behind(single, ahead) if single[2] else None
        if start is None:
            if single is second:
                return False
        else:
            back = state_behind(single, turn, start[0])
            if back is None or back[0] != start[0]:
                return False
    log = ahead + turn * times + behind
    return cost_of(second, log) != NONE and (cost_of(first, log) == NONE or cost_of(first, log) > cost_of(second, log))


class SameTest(unittest.TestCase):
    def test_the_examples(self):
        self.assertEqual(same_fares(ONE, TWO), ("differ", ()))
        self.assertEqual(same_fares(ONE, ONE), ("same", ((0, 0, 0),)))

    def test_against_the_definition(self):
        found = {"same": 0, "differ": 0}
        lengths = set()
        for first, second in pairs_of(250, 500):
            # If they differ, then by a log with fewer letters than both have states together.
            logs = logs_up_to(first[0], len(first[2]) + len(second[2]))
            differing = [log for log in logs if cost_of(first, log) != cost_of(second, log)]
            kind, told = same_fares(first, second)
            self.assertEqual(kind, "differ" if differing else "same", (first, second))
            found[kind] += 1
            if differing:
                self.assertEqual(told, differing[0], (first, second))
                lengths.add(len(told))
                continue
            self.assertTrue(known_same(first, second, told), (first, second, told))
            self.assertIs(is_same(first, second, told), True)
            for at in range(len(told)):
                self.assertFalse(known_same(first, second, told[:at] + told[at + 1:]))
            met = [tuple([state_behind(single, log) for single in (first, second)]) for log in logs if told]
            met = {(one[0], other[0]) for one, other in met if one is not None and other is not None}
            self.assertTrue(all((s, t) in met for s, t, _ in told))
        self.assertGreater(min(found.values()), 100, found)
        self.assertGreater(len(lengths), 2)

    def test_machines_told_otherwise(self):
        source = random.Random(251)
        for single in random_singles(252, 80, 6, 3):
            self.assertEqual(same_fares(single, least_single(single))[0], "same")
            if single[2]:
                order = [0] + source.sample(range(1, len(single[2])), len(single[2]) - 1)
                kind, paper = same_fares(single, renumbered(single, order))
                self.assertEqual(kind, "same")
                self.assertTrue(is_same(single, renumbered(single, order), paper))

    def test_long_logs(self):
        # Rings of 19 and of 21 states: they end together behind 0 and 399 letters, and nowhere else.
        one, other = ring(19, range(19)), ring(21, range(21))
        self.assertEqual(same_fares(one, other)[0], "same")
        self.assertEqual(len(same_fares(one, other)[1]), 399)
        self.assertIs(is_same(one, other, same_fares(one, other)[1]), True)
        self.assertEqual(same_fares(one, ring(21, range(20))), ("differ", ("a",) * 20))
        self.assertEqual(same_fares(ring(19, [18]), ring(21, [20])), ("differ", ("a",) * 18))
        # The same fares until both rings have been gone: only the last fares of the longer one differ then.
        other = other[:3] + (other[3][:20] + (1,),)
        self.assertEqual(same_fares(one, other), ("differ", ("a",) * 20))
        self.assertEqual(same_fares(ring(1, [0]), ring(60, range(59))), ("differ", ("a",) * 59))

    def test_no_log_can_be_gone(self):
        stuck = (("a",), 3, (((0, 1),),), (NONE,))
        for first, second in itertools.product((EMPTY, stuck), repeat=2):
            self.assertEqual(same_fares(first, second), ("same", ()))
            self.assertIs(is_same(first, second, ()), True)
            self.assertIs(is_same(first, second, ((0, 0, 0),)), False)
        for single in (EMPTY, stuck):
            self.assertEqual(same_fares(single, ONE), ("differ", ()))
            self.assertEqual(same_fares(ring(3, [2]), single), ("differ", ("a", "a")))
            for paper in ((), ((0, 0, 0),), ((0, 0, 5),)):
                self.assertIs(is_same(single, ONE, paper), False)
                self.assertIs(is_same(ONE, single, paper), False)

    def test_papers_with_one_thing_changed(self):
        source = random.Random(253)
        judged = {True: 0, False: 0}
        for first, second in pairs_of(254, 300):
            kind, told = same_fares(first, second)
            papers = [told] if kind == "same" else [((0, 0, 0),), ((0, 0, first[1] - second[1]),), ()]
            papers += variants(TRIPLES, papers[0])
            papers += [tuple(sorted(paper)) for paper in papers]
            papers += variants(TRIPLES, source.choice(papers))
            for paper in papers:
                right = known_same(first, second, paper)
                self.assertIs(is_same(first, second, paper), right, (first, second, paper))
                judged[right] += 1
        self.assertGreater(min(judged.values()), 100, judged)

    def test_pairs_that_are_not_met_together(self):
        single = (("a",), 0, (((1, 2),), ((0, 3),)), (0, 0))
        self.assertEqual(same_fares(single, single)[1], ((0, 0, 0), (1, 1, 0)))
        self.assertIs(is_same(single, single, ((0, 0, 0), (0, 1, 0), (1, 0, 0), (1, 1, 0))), False)
        # Where all moves cost the same, the needless pairs keep the rules.
        single = (("a",), 0, (((1, 2),), ((0, 2),)), (0, 0))
        self.assertIs(is_same(single, single, ((0, 0, 0), (0, 1, 0), (1, 0, 0), (1, 1, 0))), True)
        self.assertIs(is_same(single, single, ((0, 0, 0), (0, 1, 0), (1, 1, 0))), False)
        self.assertIs(is_same(single, single, ((0, 0, 0), (0, 1, 1), (1, 0, 1), (1, 1, 0))), False)
        # State 2 is not met, so that no pair may have it.
        more = (("a",), 0, single[2] + (((0, 2),),), (0, 0, 0))
        self.assertIs(is_same(more, single, ((0, 0, 0), (1, 1, 0))), True)
        self.assertIs(is_same(more, single, ((0, 0, 0), (1, 1, 0), (2, 1, 0))), False)


class LettersTest(unittest.TestCase):
    def test_other_letters_ahead_of_too_many_pairs(self):
        large = ring(60, [0])
        for second in ((("b",), NONE, (), ()), (("a", "b"), NONE, (), ()), (("b",),) + large[1:]):
            for function, papers in (
                (same_fares, ()), (never_dearer, ()), (is_same, ((),)), (is_never, ((),)), (is_same, (((9, 9, 9),),)),
                (is_dearer, (((), (), 0, ()),)),
            ):
                for pair in ((large, second), (second, large)):
                    with self.assertRaises(NotAllowed):
                        function(*pair, *papers)

    def test_just_400_pairs(self):
        for one, other, large in (
            (20, 20, False), (60, 6, False), (57, 7, False), (21, 20, True), (60, 7, True), (60, 60, True),
        ):
            first, second = ring(one, [0]), ring(other, [0])
            for function in (same_fares, never_dearer):
                if large:
                    with self.assertRaises(TooLarge):
                        function(first, second)
                else:
                    self.assertEqual(len(function(first, second)), 2)
        # The judges take any number of pairs.
        paper = tuple([(state, state, 0) for state in range(60)])
        self.assertIs(is_same(ring(60, [0]), ring(60, [0]), paper), True)
        self.assertIs(is_never(ring(60, [0]), ring(60, [0]), paper), True)
        self.assertIs(is_dearer(ring(60, [0], 2), ring(60, [0]), ((), ("a",) * 60, 1, ())), True)
        # States that are not met count, too.
        more = (("a",), 0, (((0, 0),),) * 21, (0,) * 21)
        with self.assertRaises(TooLarge):
            same_fares(more, ring(20, [0]))


class NeverTest(unittest.TestCase):
    def test_the_examples(self):
        self.assertEqual([never_dearer(ONE, TWO)[0], never_dearer(TWO, ONE)[0]], ["dearer", "dearer"])
        self.assertIs(is_dearer(TWO, ONE, ((), ("a",), 6, ())), True)
        self.assertIs(is_dearer(TWO, ONE, ((), ("a",), 5, ())), False)
        self.assertIs(is_never(ONE, ONE, ((0, 0, 0),)), True)

    def test_just_one_of_both(self):
        found = {"never": 0, "dearer": 0}
        times = set()
        for first, second in pairs_of(255, 500):
            logs = logs_up_to(first[0], 6)
            dearer = [log for log in logs if known_dearer(first, second, (log, (), 0, ()))]
            kind, paper = never_dearer(first, second)
            found[kind] += 1
            if kind == "never":
                self.assertEqual(dearer, [], (first, second))
                self.assertTrue(known_never(first, second, paper), (first, second, paper))
                self.assertIs(is_never(first, second, paper), True)
            else:
                self.assertTrue(known_dearer(first, second, paper), (first, second, paper))
                self.assertIs(is_dearer(first, second, paper), True)
                times.add(paper[2])
        self.assertGreater(min(found.values()), 100, found)
        self.assertGreater(len(times), 2)

    def test_lesser_fares(self):
        for first, second in pairs_of(257, 100):
            for single in (first, second):
                rows = [[(after, fare if after == NONE else max(fare - 1, 0)) for after, fare in row] for row in single[2]]
                less = (single[0], single[1], tuple([tuple(row) for row in rows]), single[3])
                self.assertEqual(never_dearer(less, single)[0], "never")
                self.assertIs(is_never(less, single, never_dearer(less, single)[1]), True)
                kinds = [never_dearer(first, second)[0], never_dearer(second, first)[0]]
                self.assertEqual(kinds == ["never", "never"], same_fares(first, second)[0] == "same")

    def test_no_log_can_be_gone(self):
        stuck = (("a",), 3, (((0, 1),),), (NONE,))
        for second in (EMPTY, stuck):
            for first in (EMPTY, stuck, ONE, ring(4, [1])):
                self.assertEqual(never_dearer(first, second), ("never", ()))
                self.assertIs(is_never(first, second, ()), True)
                self.assertIs(is_never(first, second, ((0, 0, 0),)), False)
                self.assertIs(is_dearer(first, second, ((), (), 0, ())), False)
        for first in (EMPTY, stuck):
            kind, paper = never_dearer(first, ring(4, [1]))
            self.assertEqual(kind, "dearer")
            self.assertIs(is_dearer(first, ring(4, [1]), paper), True)
            self.assertTrue(known_dearer(first, ring(4, [1]), paper))
            self.assertIs(is_never(first, ring(4, [1]), ()), False)

    def test_an_end_that_the_first_one_lacks(self):
        first, second = ring(2, [1]), ring(2, [0, 1])
        for more in (-9, 0, 9):
            self.assertIs(is_never(first, second, ((0, 0, more), (1, 1, more))), False)
            self.assertIs(is_never(second, first, ((0, 0, more), (1, 1, more))), more == 0)
            self.assertIs(is_same(first, second, ((0, 0, more), (1, 1, more))), False)
        self.assertIs(is_dearer(first, second, ((), (), 0, ())), True)
        self.assertIs(is_dearer(first, second, ((), ("a", "a"), 10 ** 10, ())), True)
        self.assertIs(is_dearer(first, second, (("a",), ("a", "a"), 10 ** 10, ())), False)

    def test_greater_bounds_and_needless_pairs(self):
        for more, right in ((4, False), (5, True), (9, False)):
            first, second = ONE, (("a",), 0, (((0, 1),),), (7,))
            self.assertIs(is_never(first, second, ((0, 0, more),)), more <= 7 and right)
        for more in range(-3, 4):
            single = (("a",), 0, (((1, 2),), ((0, 3),)), (5, 5))
            paper = ((0, 0, 0), (0, 1, more), (1, 0, more), (1, 1, 0))
            self.assertIs(is_never(single, single, paper), known_never(single, single, paper))
            self.assertIs(is_same(single, single, paper), False)

    def test_papers_with_one_thing_changed(self):
        source = random.Random(258)
        judged = {True: 0, False: 0}
        for first, second in pairs_of(259, 300):
            kind, told = never_dearer(first, second)
            papers = [told] if kind == "never" else [((0, 0, 9),), ((0, 0, first[1] - second[1]),), ()]
            papers += variants(TRIPLES, papers[0])
            papers += [tuple(sorted(paper)) for paper in papers]
            papers += variants(TRIPLES, source.choice(papers))
            for paper in papers:
                right = known_never(first, second, paper)
                self.assertIs(is_never(first, second, paper), right, (first, second, paper))
                judged[right] += 1
        self.assertGreater(min(judged.values()), 100, judged)

    def test_papers_against_with_one_thing_changed(self):
        judged = {True: 0, False: 0}
        for first, second in pairs_of(260, 300):
            kind, told = never_dearer(first, second)
            papers = [told] if kind == "dearer" else [((), (), 0, ()), (("a",), ("a",), 3, ("a",))]
            for paper in papers + [other for paper in papers for other in variants(AGAINST, paper)]:
                right = known_dearer(first, second, paper)
                self.assertIs(is_dearer(first, second, paper), right, (first, second, paper))
                judged[right] += 1
        self.assertGreater(min(judged.values()), 100, judged)

    def test_rounds_that_do_not_lead_back(self):
        first, second = ring(4, range(4), 2), ring(2, range(2))
        for turn, right in ((0, False), (1, False), (2, False), (3, False), (4, True), (6, False), (8, True)):
            self.assertIs(is_dearer(first, second, ((), ("a",) * turn, 1, ())), right)
            self.assertIs(is_dearer(second, first, ((), ("a",) * turn, 1, ())), False)
            # It has to lead back whatever the times are.
            self.assertIs(is_dearer(first, second, (("a",), ("a",) * turn, 0, ())), right or turn == 0)
        # If the first machine has no state behind the log ahead, the round is the second one's alone.
        first = (("a", "b"), 0, (((0, 1), (NONE, NONE)),), (0,))
        second = (("a", "b"), 0, (((0, 9), (1, 9)), ((0, 9), (1, 9))), (0, 0))
        self.assertIs(is_dearer(first, second, (("b",), ("b",), 5, ("a",))), True)
        self.assertIs(is_dearer(first, second, (("b",), ("a",), 5, ("a",))), False)
        self.assertIs(is_dearer(first, second, (("a",), ("b",), 5, ())), False)
        self.assertIs(is_dearer(first, second, ((), (), 0, ("b",))), True)
        self.assertIs(is_dearer(first, second, ((), (), 0, ("a",))), False)

    def test_times(self):
        first, second = (("a",), 0, (((0, 1),),), (0,)), (("a",), 1000000, (((0, 0),),), (0,))
        kind, paper = never_dearer(first, second)
        self.assertEqual((kind, is_dearer(first, second, paper)), ("dearer", True))
        for times, right in (
            (0, False), (1000000, False), (1000001, True), (10 ** 10, True), (10 ** 10 + 1, False), (-1, False),
        ):
            self.assertIs(is_dearer(first, second, ((), ("a",), times, ())), right)
        self.assertIs(is_dearer(ONE, TWO, ((), (), -1, ())), False)
        self.assertIs(is_dearer(ONE, TWO, ((), (), 10 ** 10 + 1, ())), False)
        self.assertIs(is_dearer(ONE, TWO, ((), (), 10 ** 10, ())), True)

    def test_logs_of_more_than_400_letters(self):
        first, second = (("a",), 0, (((0, 2),),), (0,)), (("a",), 0, (((0, 1),),), (0,))
        for at in (0, 1, 3):
            for length, right in ((400, True), (401, False)):
                paper = [("a",), ("a",), 1, ("a",)]
                paper[at] = ("a",) * length
                self.assertIs(is_dearer(first, second, tuple(paper)), right)
            paper = [("a",), ("a",), 1, ("a",)]
            paper[at] = ("b",)
            self.assertIs(is_dearer(first, second, tuple(paper)), False)

    def test_long_papers(self):
        # The first one lacks an end that only comes up with the second one's behind 398 letters.
        first, second = ring(19, range(18)), ring(21, [20])
        kind, paper = never_dearer(first, second)
        self.assertEqual((kind, is_dearer(first, second, paper)), ("dearer", True))
        self.assertTrue(known_dearer(first, second, paper))
        # The first one stops behind 354 letters, and the second one ends 57 letters later: one log is not enough.
        stop = (NONE, NONE)
        rows = [(((state + 1) % 6, 1), stop if state == 5 else ((state + 1) % 6, 1)) for state in range(6)]
        first = (("a", "b"), 0, tuple(rows), (0,) * 6)
        rows = [(((state + 1) % 59, 1), (0, 1) if state == 58 else stop) for state in range(59)]
        second = (("a", "b"), 0, tuple(rows), (NONE,) * 57 + (0, NONE))
        kind, paper = never_dearer(first, second)
        self.assertEqual((kind, is_dearer(first, second, paper)), ("dearer", True))
        self.assertTrue(known_dearer(first, second, paper))
        self.assertEqual(len(paper[0] + paper[3]), 411)

    def test_great_fares(self):
        great = (("a",), 1000000, (((0, 1000000),),), (1000000,))
        near = (("a",), 1000000, (((0, 999999),),), (1000000,))
        for first, second, kind in ((great, near, "dearer"), (near, great, "never"), (great, great, "never")):
            check_single(first)
            told, paper = never_dearer(first, second)
            self.assertEqual(told, kind)
            self.assertTrue(is_never(first, second, paper) if kind == "never" else is_dearer(first, second, paper))
        # A round that costs just 1 more has to make up for all that was paid ahead of it, and comes behind it.
        rows = tuple([((state + 1, 1000000),) for state in range(19)])
        dear = (("a",), 1000000, rows + (((19, 1),),), (1000000,) * 20)
        cheap = (("a",), 0, tuple([((state + 1, 0),) for state in range(19)]) + (((19, 2),),), (0,) * 20)
        kind, paper = never_dearer(cheap, dear)
        self.assertEqual((kind, is_dearer(cheap, dear, paper)), ("dearer", True))
        self.assertGreater(paper[2], 10 ** 7)
        self.assertIs(is_dearer(cheap, dear, paper[:2] + (paper[2] - 1,) + paper[3:]), False)

    def test_large_machines(self):
        source = random.Random(261)
        for _ in range(20):
            single = random_single(source, 20, 4, 1, 9)
            other = random_single(source, 20, 4, 1, 9)
            for first, second in ((single, single), (single, other), (other, single)):
                kind, paper = never_dearer(first, second)
                self.assertTrue(is_never(first, second, paper) if kind == "never" else is_dearer(first, second, paper))
                kind, paper = same_fares(first, second)
                if kind == "same":
                    self.assertIs(is_same(first, second, paper), True)
                else:
                    self.assertNotEqual(cost_of(first, paper), cost_of(second, paper))
