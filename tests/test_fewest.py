"""Tests of faremachines.fewest: the fewest closings that hold a log, and ways papers ([11.2], [11.3])."""

import random
import unittest
from unittest import mock

from faremachines import fewest
from faremachines.closings import moves_of
from faremachines.errors import Missing, NotAllowed, TooLarge
from faremachines.fewest import MAX_TREE, fewest_closings, holds, judge_ways, ways_paper
from faremachines.machines import fare_of
from tests import closed
from tests.closed import FORK
from tests.samples import LETTERS, NONE, PLAIN, ROWS, SINGLE, STUCK, answer_of, random_machine, ways_of

# All moves by one letter, for nothing.
FULL = {size: (("a",), (0,) * size, ((tuple([(t, 0) for t in range(size)]),),) * size, (0,) * size) for size in (1, 2, 3)}
CASES = closed.machines_and_logs(810, 220, 3, 2, 4)


def letters_apart(many):
    """Return a machine and a log of so many letters, each of which has its own move, at most 28 of them."""
    moves = []
    for state in range(8):
        moves.append(tuple([((state + 1, 1),) if state < 7 else ()] * 4))
    log = tuple([LETTERS[at // 7] for at in range(many)])
    return (LETTERS, (0,) * 8, tuple(moves), (0,) * 8), log


def braid(letters, width):
    """Return a machine and a log of so many letters; each way has a move of its own for each letter, not one twice.

    By each letter moves lead from each of as many states as the width tells to each of the next ones, round and round;
    the log has each letter as long as it takes to come round.
    """
    rounds = 8 // width
    moves = []
    for state in range(8):
        first = (state // width + 1) % rounds * width
        moves.append((tuple([(first + k, 0) for k in range(width)]),) * 4)
    log = tuple([LETTERS[at // rounds] for at in range(letters)])
    return (LETTERS, (0,) * width + (NONE,) * (8 - width), tuple(moves), (0,) * 8), log


def count_tree(paper):
    """Return the number of the ways of a paper of the form tree."""
    return 1 + sum([count_tree(part) for part in paper[2]])


def wrong_papers(paper):
    """Return a list of papers of the form tree, each with one thing changed."""
    word, way, parts = paper
    found = [(other, way, parts) for other in ("apart", "trees", "")] + [("tree", way), ("apart", (way,)), ("tree", way, parts, ())]
    for at in range(len(way)):
        found += [(word, way[:at] + (way[at] + more,) + way[at + 1:], parts) for more in (-1, 1)]
        found.append((word, way[:at] + way[at + 1:], parts))
    found.append((word, way + way[-1:], parts))
    for at, part in enumerate(parts):
        found += [(word, way, parts[:at] + parts[at + 1:]), (word, way, parts[:at] + (part, part) + parts[at + 1:])]
        found += [(word, way, parts[:at] + (other,) + parts[at + 1:]) for other in wrong_papers(part)[:12]]
        found.append((word, way, parts[:at] + (("apart", (part[1],)),) + parts[at + 1:]))
        if at:
            found.append((word, way, parts[:at - 1] + (part, parts[at - 1]) + parts[at + 1:]))
    found.append((word, way, parts + (("tree", way, ()),)))
    return found


class HoldsTest(unittest.TestCase):
    def test_the_examples(self):
        self.assertIs(holds(FORK, ("a", "a"), 2, ((0, "a", 1),)), True)
        self.assertIs(holds(FORK, ("a", "a"), 4, ()), False)
        self.assertIs(holds(FORK, ("a", "a"), 4, ((0, "a", 1),)), False)
        self.assertIs(holds(FORK, ("a", "a"), 3, ((0, "a", 1),)), True)
        self.assertIs(holds(FORK, ("a", "a"), 4, ((0, "a", 1), (2, "a", 3))), True)

    def test_against_the_ways(self):
        source = random.Random(811)
        told = {True: 0, False: 0}
        for machine, log in CASES:
            moves = moves_of(machine)
            for many in range(min(3, len(moves)) + 1):
                closings = tuple([moves[at] for at in sorted(source.sample(range(len(moves)), many))])
                for c in (0, 3, 8, 20, 1000):
                    expected = closed.are_holding(machine, log, c, closings)
                    self.assertIs(holds(machine, log, c, closings), expected)
                    told[expected] += 1
        self.assertGreater(min(told.values()), 300, told)

    def test_what_is_not_allowed(self):
        for arguments in (
            (("b",), 2, ()), (("a",) * 401, 2, ()), (("a", "a"), -1, ()), (("a", "a"), -5, ((0, "a", 1),)),
            (("a", "a"), 2, ((0, "a", 3),)), (("a", "a"), 2, ((0, "a", 2), (0, "a", 1))), (("a",), 2, ((0, "a", 1), (0, "a", 1))),
            (("b",), -1, ((9, "a", 1),)),
        ):
            with self.assertRaises(NotAllowed, msg=arguments):
                holds(FORK, *arguments)


class FewestTest(unittest.TestCase):
    def test_the_examples(self):
        self.assertEqual(fewest_closings(FORK, ("a", "a"), 2), ((0, "a", 1),))
        self.assertEqual(fewest_closings(FORK, ("a", "a"), 4), ((0, "a", 1), (0, "a", 2)))

    def test_against_all_closings(self):
        sizes = {}
        for machine, log in CASES:
            fare = fare_of(machine, log)
            for c in sorted({0, max(fare - 1, 0), max(fare, 0), fare + 1, fare + 3, fare + 8, 1000}):
                expected = closed.fewest(machine, log, c)
                found = answer_of(fewest_closings, machine, log, c)
                self.assertEqual(found, "Missing" if expected is None else expected, (machine, log, c))
                size = "Missing" if expected is None else len(expected)
                sizes[size] = sizes.get(size, 0) + 1
                if expected is not None:
                    self.assertIs(holds(machine, log, c, found), True)
        self.assertEqual(set(sizes), {0, 1, 2, 3, 4, "Missing"})
        self.assertGreater(min(sizes.values()), 5, sizes)

    def test_below_the_fare_nothing_has_to_be_closed(self):
        for machine, log in CASES:
            fare = fare_of(machine, log)
            if fare > 0:
                self.assertEqual(fewest_closings(machine, log, fare - 1), ())
            if fare != NONE and log:
                self.assertNotEqual(answer_of(fewest_closings, machine, log, fare), ())
        self.assertEqual(fewest_closings(STUCK, ("a",), 0), ())
        self.assertEqual(fewest_closings(FORK, (), 10 ** 9), ())

    def test_the_empty_log_cannot_be_held(self):
        for c in (6, 7, 10 ** 9):
            with self.assertRaises(Missing):
                fewest_closings(PLAIN, (), c)
        self.assertEqual(fewest_closings(PLAIN, (), 5), ())

    def test_at_most_four_moves(self):
        # A log of one letter has a way for each move, so that all of them are to be closed.
        self.assertEqual(fewest_closings(FULL[1], ("a",), 0), ((0, "a", 0),))
        self.assertEqual(fewest_closings(FULL[2], ("a",), 0), tuple(moves_of(FULL[2])))
        with self.assertRaises(Missing):
            fewest_closings(FULL[3], ("a",), 0)
        self.assertEqual(fewest_closings(FULL[2], ("a",) * 5, 0), closed.fewest(FULL[2], ("a",) * 5, 0))
        with self.assertRaises(Missing):
            fewest_closings(FULL[3], ("a",) * 100, 7)

    def test_the_first_ones_of_as_many(self):
        machine, log = letters_apart(7)
        self.assertEqual(fewest_closings(machine, log, 7), ((0, "a", 1),))
        # The order of letters is that of their indexes.
        other = (("b", "a"), (0, NONE, NONE), ((((1, 0),), ()), ((), ((2, 0),)), ((), ())), (NONE, NONE, 0))
        self.assertEqual(fewest_closings(other, ("b", "a"), 0), ((0, "b", 1),))

    def test_larger_machines(self):
        source = random.Random(812)
        told = {"Missing": 0, "found": 0}
        for _ in range(40):
            machine = random_machine(source, source.choice([5, 8]), 2, source.choice([0.25, 0.4]), source.choice([1, 9]))
            log = tuple(source.choices(machine[0], k=source.choice([6, 12, 25])))
            fare = fare_of(machine, log)
            if fare == NONE:
                continue
            for c in (fare, fare + 1, fare + 4, fare + 15):
                found = answer_of(fewest_closings, machine, log, c)
                if found == "Missing":
                    told["Missing"] += 1
                    continue
                told["found"] += 1
                self.assertIs(holds(machine, log, c, found), True)
                # No closings with a move less hold it, as a paper shows.
                if found:
                    paper = answer_of(ways_paper, machine, log, c, len(found) - 1)
                    self.assertTrue(paper == "TooLarge" or judge_ways(machine, log, c, len(found) - 1, paper))
        self.assertGreater(min(told.values()), 5, told)

    def test_what_is_not_allowed(self):
        for log, c in ((("a", "a"), -1), (("a", "a"), -99), (("b",), 3), (("a",) * 401, 3), (("b",), -1)):
            with self.assertRaises(NotAllowed):
                fewest_closings(FORK, log, c)


class WaysPaperTest(unittest.TestCase):
    def test_just_where_no_closings_hold_it(self):
        told = {"paper": 0, "Missing": 0}
        for machine, log in CASES:
            fare = fare_of(machine, log)
            for c in (max(fare, 0), fare + 3, 1000):
                known = closed.fewest(machine, log, c)
                for k in range(5):
                    paper = answer_of(ways_paper, machine, log, c, k)
                    if known is not None and len(known) <= k:
                        self.assertEqual(paper, "Missing", (machine, log, c, k))
                        told["Missing"] += 1
                        continue
                    self.assertTrue(closed.is_ways_paper(machine, log, c, k, paper), (machine, log, c, k, paper))
                    self.assertIs(judge_ways(machine, log, c, k, paper), True)
                    told["paper"] += 1
        self.assertGreater(min(told.values()), 200, told)

    def test_papers_with_one_thing_changed(self):
        source = random.Random(813)
        judged = {True: 0, False: 0}
        for machine, log in CASES[:120] + [(PLAIN, ()), (FULL[2], ("a", "a"))]:
            fare = fare_of(machine, log)
            for c in (max(fare, 0), fare + 3):
                for k in range(3):
                    paper = answer_of(ways_paper, machine, log, c, k)
                    if isinstance(paper, str):
                        continue
                    papers = wrong_papers(paper)
                    for changed in [paper] + source.sample(papers, min(len(papers), 30)):
                        right = closed.is_ways_paper(machine, log, c, k, changed)
                        self.assertIs(judge_ways(machine, log, c, k, changed), right, (machine, log, c, k, changed))
                        judged[right] += 1
                    # Fares and numbers of closings that do not fit.
                    for other_c, other_k in ((c, k + 1), (c, k - 1), (max(c - 1, 0), k), (c + 5, k), (c, 4)):
                        if 0 <= other_k <= 4:
                            right = closed.is_ways_paper(machine, log, other_c, other_k, paper)
                            self.assertIs(judge_ways(machine, log, other_c, other_k, paper), right)
                            judged[right] += 1
        self.assertGreater(min(judged.values()), 300, judged)

    def test_ways_apart(self):
        source = random.Random(814)
        judged = {True: 0, False: 0}
        for machine, log in CASES:
            ways = ways_of(machine, log)
            for _ in range(6 if ways else 0):
                chosen = tuple([way for _, way in source.sample(ways, source.randrange(1, min(len(ways), 4) + 1))])
                chosen += chosen[:1] if source.random() < 0.3 else ()
                for c in (0, ways[0][0], 20, 100):
                    for k in range(5):
                        right = closed.is_ways_paper(machine, log, c, k, ("apart", chosen))
                        self.assertIs(judge_ways(machine, log, c, k, ("apart", chosen)), right)
                        judged[right] += 1
        self.assertGreater(min(judged.values()), 100, judged)

    def test_the_examples(self):
        self.assertIs(judge_ways(FORK, ("a", "a"), 4, 1, ("apart", ((0, 1, 3), (0, 2, 3)))), True)
        self.assertIs(judge_ways(FORK, ("a", "a"), 4, 0, ("tree", (0, 2, 3), ())), True)
        for c, k, paper in (
            (3, 1, ("apart", ((0, 1, 3), (0, 2, 3)))), (4, 2, ("apart", ((0, 1, 3), (0, 2, 3)))), (4, 1, ("apart", ((0, 1, 3),) * 2)),
            (4, 1, ("apart", ((0, 1, 3), (0, 2, 2)))), (4, 1, ("apart", ((0, 1, 3), (0, 2)))), (4, 0, ("apart", ())),
            (3, 0, ("tree", (0, 2, 3), ())), (4, 1, ("tree", (0, 2, 3), ())), (4, 0, ("tree", (0, 2, 3), (("tree", (0, 1, 3), ()),) * 2)),
            (4, 1, ("tree", (0, 2, 3), (("tree", (0, 2, 3), ()),) * 2)), (4, 1, ("apart", ((0, 1, 3), (0, 2, 3)), ())),
            (4, 1, ("tree", ((0, 1, 3), (0, 2, 3)))), (4, 1, ("", ((0, 1, 3), (0, 2, 3)))), (4, 0, ("tree", (), ())), (4, 0, ()),
        ):
            self.assertIs(judge_ways(FORK, ("a", "a"), c, k, paper), False, (c, k, paper))
        self.assertIs(judge_ways(FORK, ("a", "a"), 4, 1, ("tree", (0, 2, 3), (("tree", (0, 1, 3), ()),) * 2)), True)

    def test_the_empty_log(self):
        for k in range(5):
            self.assertIs(judge_ways(PLAIN, (), 6, k, ("apart", ((1,),) * (k + 1))), True)
            self.assertIs(judge_ways(PLAIN, (), 6, k, ("apart", ((1,),) * k)), False)
            self.assertIs(judge_ways(PLAIN, (), 6, k, ("tree", (1,), ())), True)
            self.assertIs(judge_ways(PLAIN, (), 5, k, ("tree", (1,), ())), False)
            self.assertIs(judge_ways(PLAIN, (), 6, k, ("tree", (0,), ())), False)
            self.assertIs(judge_ways(PLAIN, (), 6, k, ways_paper(PLAIN, (), 6, k)), True)
            with self.assertRaises(Missing):
                ways_paper(PLAIN, (), 5, k)

    def test_a_move_that_comes_again_has_one_paper(self):
        log = ("a",) * 5
        paper = ways_paper(ROWS, log, 0, 0)
        self.assertIs(judge_ways(ROWS, log, 0, 0, paper), True)
        # The way has the moves (0, a, 0) and (0, a, 1), or (1, a, 1), too; with the last letter it leaves.
        self.assertIs(judge_ways(FULL[2], log, 0, 1, ("tree", (0,) * 6, (("tree", (1,) * 6, ()),))), True)
        self.assertIs(judge_ways(FULL[2], log, 0, 1, ("tree", (0,) * 6, (("tree", (1,) * 6, ()),) * 5)), False)
        self.assertIs(judge_ways(FULL[2], log, 0, 1, ("tree", (0,) * 6, (("tree", (1, 1, 1, 1, 0, 0), ()),))), False)
        single = ("tree", (0, 0), ())
        self.assertIs(judge_ways(SINGLE, ("a",), 1, 0, single), True)
        with self.assertRaises(Missing):
            ways_paper(SINGLE, ("a",), 1, 1)

    def test_trees_of_3000_ways_and_more(self):
        self.assertEqual(MAX_TREE, 3000)
        for letters, width, k, many in ((14, 2, 3, 2955), (7, 4, 4, 2801), (15, 2, 3, 3616), (8, 4, 4, 4681), (16, 2, 2, 273)):
            machine, log = braid(letters, width)
            if many > 3000:
                with self.assertRaises(TooLarge):
                    ways_paper(machine, log, 0, k)
            else:
                paper = ways_paper(machine, log, 0, k)
                self.assertEqual(count_tree(paper), many)
                self.assertIs(judge_ways(machine, log, 0, k, paper), True)
        # With four moves closed the narrow one is held, and no wide one is.
        self.assertEqual(fewest_closings(*braid(5, 2), 0), ((0, "a", 2), (0, "a", 3), (1, "a", 2), (1, "a", 3)))
        self.assertEqual(answer_of(fewest_closings, *braid(8, 4), 0), "Missing")

    def test_just_so_many_ways_and_one_more(self):
        for machine, log in CASES[:80]:
            paper = answer_of(ways_paper, machine, log, 30, 2)
            if isinstance(paper, str):
                continue
            size = count_tree(paper)
            with mock.patch.object(fewest, "MAX_TREE", size):
                self.assertEqual(ways_paper(machine, log, 30, 2), paper)
            with mock.patch.object(fewest, "MAX_TREE", size - 1):
                with self.assertRaises(TooLarge):
                    ways_paper(machine, log, 30, 2)

    def test_what_is_not_allowed(self):
        tree = ("tree", (0, 2, 3), ())
        for log, c, k in (
            (("a", "a"), -1, 0), (("a", "a"), 4, -1), (("a", "a"), 4, 5), (("b",), 4, 0), (("a",) * 401, 4, 0), (("b",), -1, 9),
        ):
            with self.assertRaises(NotAllowed):
                ways_paper(FORK, log, c, k)
            for paper in (tree, ("apart", ()), ("apart", ((0, 1, 3),))):
                with self.assertRaises(NotAllowed):
                    judge_ways(FORK, log, c, k, paper)
