"""Tests of faremachines.comparing ([6.1], [6.6], [6.7])."""

import itertools
import math
import unittest
from unittest import mock

from faremachines import comparing
from faremachines.cells import first_place, judge_cells, place_behind
from faremachines.comparing import dearer_log, least_part, made_cells, never_dearer_union
from faremachines.errors import Missing, NotAllowed, TooLarge
from faremachines.unions import check_union, union_fare
from tests.samples import NONE, answer_of, logs_up_to
from tests.test_cells import BOTH, HALF, dot, random_sides
from tests.test_unions import COUNT_A, COUNT_B, EMPTY, ring


def places_of(union, single):
    """Return a dict with the steps from each place that comes up, by the letters."""
    start = first_place(union, single)
    found = {}
    queue = [] if start is None else [start[0]]
    while queue:
        place = queue.pop()
        if place not in found:
            steps = [place_behind(union, single, place, letter) for letter in single[0]]
            found[place] = [step for step in steps if step is not None]
            queue += [after for after, _ in found[place]]
    return found


def greatest(union, single, places, weights):
    """Return a dict with the greatest sum at each place, `inf` if there is none, from longer and longer logs."""
    (first, gaps) = first_place(union, single)
    sums = {first: dot(weights, gaps)}
    for turn in range(2 * len(places) + 1):
        longer = dict(sums)
        for place, total in sums.items():
            for after, steps in places[place]:
                longer[after] = max(longer.get(after, -math.inf), total + dot(weights, steps))
        # What is still greater with more letters than there are places goes on to grow.
        more = [place for place in longer if longer[place] > sums.get(place, -math.inf)]
        longer.update({place: math.inf for place in more if turn >= len(places)})
        sums = longer
    return sums


def known_paper(union, single):
    """Return the made paper, from all logs."""
    places = places_of(union, single)
    cells = []
    for place in sorted(places):
        bounds = []
        for weights in itertools.product(range(3), repeat=len(union)):
            stopped = any(weight and state == NONE for weight, state in zip(weights, place[1]))
            if any(weights) and not stopped:
                sums = greatest(union, single, places, weights)
                bounds += [(weights, sums[place])] if sums[place] < math.inf else []
        cells.append((place, tuple(bounds), ()))
    return tuple(cells)


def dearer_at(first, second, log):
    """Tell whether a log is dearer in the first union."""
    fare, other = union_fare(first, log), union_fare(second, log)
    return other != NONE and (fare == NONE or fare > other)


def spun(sizes, states):
    """Return a union and a single machine of 4 letters: the first three turn one member each, the last one the single."""
    letters = ("a", "b", "c", "d")

    def turning(size, at):
        rows = [[((k + 1) % size, 0) if which == at else (k, 0) for which in range(4)] for k in range(size)]
        return letters, 0, tuple([tuple(row) for row in rows]), (0,) * size

    return tuple([turning(size, at) for at, size in enumerate(sizes)]), turning(states, 3)


class MadeCellsTest(unittest.TestCase):
    def test_the_examples(self):
        paper = made_cells(BOTH, HALF)
        self.assertIs(judge_cells(BOTH, HALF, paper), True)
        # The gap of one alone has no greatest one, nor has one that counts twice as much.
        self.assertEqual(paper, (
            ((0, (0, 0)), (((1, 1), 0), ((2, 2), 0)), ()), ((1, (0, 0)), (((1, 1), 1), ((2, 2), 2)), ()),
        ))

    def test_against_the_greatest_sums(self):
        bounds = {True: 0, False: 0}
        for union, single in random_sides(290, 150) + [(BOTH, HALF), ((HALF,), COUNT_A)]:
            if first_place(union, single) is None:
                self.assertEqual(made_cells(union, single), ())
                continue
            if len(places_of(union, single)) > 12:
                continue
            paper = made_cells(union, single)
            self.assertEqual(paper, known_paper(union, single), (union, single))
            for place, told, _ in paper:
                going = len([state for state in place[1] if state != NONE])
                bounds[len(told) < 3 ** going - 1] += 1
        self.assertGreater(min(bounds.values()), 20, bounds)

    def test_no_log_keeps_less(self):
        for union, single in random_sides(291, 60):
            start = first_place(union, single)
            if start is None:
                continue
            paper = dict([(place, told) for place, told, _ in made_cells(union, single)])
            met = {}
            for log in logs_up_to(single[0], 4):
                place, gaps = start
                for letter in log:
                    behind = None if place is None else place_behind(union, single, place, letter)
                    place, steps = (None, ()) if behind is None else behind
                    gaps = tuple([gap + step for gap, step in zip(gaps, steps)])
                for weights, most in paper[place] if place is not None else ():
                    self.assertLessEqual(dot(weights, gaps), most)
                    met[(place, weights)] = max(dot(weights, gaps), met.get((place, weights), -10 ** 9))
            if len(paper) <= 3 and start is not None:
                for (place, weights), most in met.items():
                    self.assertLessEqual(most, dict(paper[place])[weights])

    def test_just_400_places(self):
        union, single = spun((5, 5, 4), 4)
        check_union(union)
        paper = made_cells(union, single)
        self.assertEqual((len(paper), len(paper[0][1]), judge_cells(union, single, paper)), (400, 26, True))
        for sizes, states in (((6, 6, 6), 2), ((5, 5, 5), 4), ((6, 6, 6), 60)):
            union, single = spun(sizes, states)
            with self.assertRaises(TooLarge):
                made_cells(union, single)
            with self.assertRaises(TooLarge):
                never_dearer_union(union, (single,))

    def test_more_places_than_there_may_be(self):
        for union, single in random_sides(292, 80, 3):
            many = len(places_of(union, single))
            for most in (1, 3, 6):
                with mock.patch.object(comparing, "MAX_PLACES", most):
                    self.assertEqual(answer_of(made_cells, union, single) == "TooLarge", many > most)

    def test_other_letters(self):
        for letters in (("b", "a"), ("a",), ("a", "b", "c")):
            with self.assertRaises(NotAllowed):
                made_cells(BOTH, ring(2, letters))


class DearerLogTest(unittest.TestCase):
    def test_the_example(self):
        self.assertEqual(dearer_log((HALF,), BOTH, 7), ("a", "a"))
        for most in (0, 1):
            with self.assertRaises(Missing):
                dearer_log((HALF,), BOTH, most)
        self.assertEqual(dearer_log((HALF,), BOTH, 2), ("a", "a"))

    def test_numbers_out_of_range(self):
        for most in (-1, 8, 10 ** 9):
            for second in (BOTH, (HALF,)):
                with self.assertRaises(NotAllowed):
                    dearer_log((HALF,), second, most)
        with self.assertRaises(Missing):
            dearer_log((HALF,), (HALF,), 7)
        self.assertEqual(dearer_log((EMPTY,), (COUNT_A,), 0), ())

    def test_other_letters(self):
        for most in (0, 8, -1):
            for letters in (("b", "a"), ("a",)):
                with self.assertRaises(NotAllowed):
                    dearer_log((HALF,), (ring(2, letters),), most)

    def test_the_first_one_of_all(self):
        found = {}
        sides = [union for union, _ in random_sides(293, 150, 3)]
        for first, second in zip(sides, sides[1:]):
            for most in (0, 2, 5):
                logs = [log for log in logs_up_to(first[0][0], most) if dearer_at(first, second, log)]
                answer = answer_of(dearer_log, first, second, most)
                self.assertEqual(answer, logs[0] if logs else "Missing", (first, second))
                kind = len(answer) if logs else None
                found[kind] = found.get(kind, 0) + 1
        self.assertTrue({0, 1, 2, None} <= set(found), found)

    def test_long_logs(self):
        # The ring of 6 states ends just behind so many letters, where the other one is cheaper.
        late = ring(6)[:3] + ((NONE,) * 5 + (7,),)
        self.assertEqual(dearer_log((late,), (ring(6)[:3] + ((NONE,) * 5 + (6,),),), 7), ("a",) * 5)
        letters = ("a", "b", "c", "d")
        first = (ring(6, letters)[:3] + ((0,) * 5 + (NONE,),),)
        self.assertEqual(dearer_log(first, (ring(1, letters),), 7), ("a",) * 5)
        with self.assertRaises(Missing):
            dearer_log((ring(1, letters),), (ring(1, letters),), 7)


class NeverDearerTest(unittest.TestCase):
    def test_the_examples(self):
        self.assertIs(never_dearer_union(BOTH, (HALF,)), True)
        self.assertIs(never_dearer_union((HALF,), BOTH), False)

    def test_what_is_told(self):
        found = {True: 0, False: 0, "TooLarge": 0}
        sides = random_sides(294, 250)
        for (first, single), (other, _) in zip(sides, sides[1:]):
            for second in ((single,), other, first + other[:3 - len(first)]):
                papers = [judge_cells(first, member, made_cells(first, member)) for member in second]
                log = answer_of(dearer_log, first, second, 7)
                known = True if all(papers) else False if log != "Missing" else "TooLarge"
                answer = answer_of(never_dearer_union, first, second)
                self.assertEqual(answer, known, (first, second))
                found[known] += 1
                if known is True:
                    self.assertEqual(log, "Missing")
        self.assertGreater(min(found[True], found[False]), 50, found)

    def test_parts_of_one_another(self):
        for first, single in random_sides(295, 60):
            self.assertIs(never_dearer_union(first, first), True)
            for part in range(1, len(first) + 1):
                for members in itertools.combinations(first, part):
                    self.assertIs(never_dearer_union(first, members), True)

    def test_nothing_is_told(self):
        # The single machine is cheaper just behind so many letters.
        letters = ("a",)
        for least, answer in ((6, False), (7, False), (8, "TooLarge")):
            rows = tuple([((min(state + 1, least), 0),) for state in range(least + 1)])
            single = (letters, 0, rows, (1,) * least + (0,))
            self.assertEqual(answer_of(never_dearer_union, (((letters, 0, (((0, 0),),), (1,))),), (single,)), answer)

    def test_other_letters(self):
        for letters in (("b", "a"), ("a",)):
            with self.assertRaises(NotAllowed):
                never_dearer_union(BOTH, (ring(2, letters),))
        # Ahead of too many places.
        union, single = spun((6, 6, 6), 6)
        with self.assertRaises(NotAllowed):
            never_dearer_union(union, (ring(2, ("a", "b", "c", "e")),))


class LeastPartTest(unittest.TestCase):
    def test_the_examples(self):
        self.assertEqual(least_part((COUNT_A, HALF, COUNT_B)), (0, 2))
        self.assertEqual(least_part((COUNT_A,)), (0,))

    def test_the_first_one_with_the_fewest_members(self):
        self.assertEqual(least_part((COUNT_A, COUNT_A, COUNT_A)), (0,))
        self.assertEqual(least_part((EMPTY, COUNT_B, COUNT_A)), (1, 2))
        self.assertEqual(least_part((EMPTY, COUNT_B, COUNT_B)), (1,))
        self.assertEqual(least_part((COUNT_A, COUNT_B, COUNT_A)), (0, 1))
        self.assertEqual(least_part((EMPTY, EMPTY)), (0,))
        free = (("a", "b"), 0, (((0, 0), (0, 0)),), (0,))
        self.assertEqual(least_part((COUNT_A, COUNT_B, free)), (2,))
        only_a = (("a", "b"), 0, (((0, 0), (NONE, NONE)),), (0,))
        self.assertEqual(least_part((COUNT_B, COUNT_A, only_a)), (0, 1))
        self.assertEqual(least_part((COUNT_A, only_a, only_a)), (0, 1))

    def test_against_what_is_told(self):
        sizes = set()
        for union, _ in random_sides(296, 120):
            known = None
            members = range(len(union))
            for part in [part for size in members for part in itertools.combinations(members, size + 1)]:
                told = answer_of(never_dearer_union, tuple([union[at] for at in part]), union)
                if told is not False:
                    known = part if told is True else told
                    break
            self.assertEqual(answer_of(least_part, union), known)
            sizes.add(len(known) if isinstance(known, tuple) else known)
        self.assertTrue({1, 2, 3} <= sizes, sizes)

    def test_too_large_ahead_of_the_least_one(self):
        union, _ = spun((6, 6, 6), 6)
        self.assertEqual(least_part(union), (0,))
        dear = union[0][:1] + (1,) + union[0][2:]
        self.assertEqual(least_part((dear, union[1], union[2])), (1,))
        # The second one is cheaper behind 24 letters, which are not tried.
        slow = (("a",), 0, (((0, 1),),), (0,))
        late = (("a",), 3, tuple([(((state + 1) % 6, 0 if state == 5 else 1),) for state in range(6)]), (0,) * 6)
        free = (("a",), 0, (((0, 0),),), (0,))
        for union, answer in (
            ((slow, late), "TooLarge"), ((late, slow), "TooLarge"), ((free, slow, late), (0,)), ((slow, late, free), (2,)),
            ((late, free, slow), (1,)), ((slow, slow), (0,)),
        ):
            self.assertEqual(answer_of(least_part, union), answer)
