"""Tests of faremachines.cells ([6.2] to [6.5])."""

import itertools
import random
import unittest

from faremachines.cells import first_place, judge_cells, place_behind
from faremachines.comparing import made_cells
from faremachines.errors import NotAllowed
from faremachines.unions import union_fare
from tests.samples import NONE, cost_of, logs_up_to, random_single, state_behind, variants
from tests.test_unions import COUNT_A, COUNT_B, EMPTY, ring

HALF = (("a", "b"), 0, (((1, 0), (1, 0)), ((0, 1), (0, 1))), (0, 0))
BOTH = (COUNT_A, COUNT_B)
PAPER = (((0, (0, 0)), (((1, 1), 0),), ()), ((1, (0, 0)), (((1, 1), 1),), ()))
# It can go the empty log alone.
LAST = (("a", "b"), 0, (((NONE, NONE), (NONE, NONE)),), (0,))
CELLS = [((int, [int]), [([int], int)], [([int], int, int)])]


def open_in(single):
    """Return the list of the open states."""
    found = [state for state, last in enumerate(single[3]) if last != NONE]
    for _ in single[3]:
        found = [s for s in range(len(single[3])) if s in found or any(t in found for t, _ in single[2][s])]
    return found


def known_first(union, single):
    """Return the first place and the first gaps, or None."""
    if 0 not in open_in(single):
        return None
    states = tuple([0 if member[2] else NONE for member in union])
    return (0, states), tuple([member[1] - single[1] if member[2] else 0 for member in union])


def known_behind(union, single, place, letter):
    """Return the place behind a letter and the steps, or None."""
    at = single[0].index(letter)
    after, paid = single[2][place[0]][at]
    if after not in open_in(single):
        return None
    states, steps = [], []
    for member, state in zip(union, place[1]):
        behind, fare = member[2][state][at] if state != NONE else (NONE, NONE)
        states.append(behind)
        steps.append(fare - paid if behind != NONE else 0)
    return (after, tuple(states)), tuple(steps)


def dot(weights, numbers):
    """Return the sum of the products."""
    return sum([weight * number for weight, number in zip(weights, numbers)])


def told_cell(union, single, cell):
    """Tell whether a cell is one."""
    (state, states), bounds, rests = cell
    if state not in open_in(single) or len(states) != len(union):
        return False
    if any(own != NONE and own not in range(len(member[2])) for own, member in zip(states, union)):
        return False
    for told in bounds + rests:
        if len(told[0]) != len(union) or any(own == NONE and weight for own, weight in zip(states, told[0])):
            return False
    return all(modulus >= 2 and rest in range(modulus) for _, modulus, rest in rests)


def all_kept(cell, gaps):
    """Tell whether gaps keep all in a cell."""
    if any(dot(weights, gaps) > most for weights, most in cell[1]):
        return False
    return all(dot(weights, gaps) % modulus == rest for weights, modulus, rest in cell[2])


def known_follows(cell, steps, after):
    """Tell whether a cell follows another one."""
    for weights, most in after[1]:
        held = [number + dot(weights, steps) <= most for known, number in cell[1] if known == weights]
        if not any(held) and (any(weights) or most < 0):
            return False
    for weights, modulus, rest in after[2]:
        held = [rule for rule in cell[2] if rule[0] == weights and rule[1] % modulus == 0]
        if not any((left + dot(weights, steps)) % modulus == rest for _, _, left in held) and (any(weights) or rest):
            return False
    return True


def known_shut(union, single, cell):
    """Tell whether a cell is shut."""
    (state, states), bounds, rests = cell
    ends = [at for at, own in enumerate(states) if own != NONE and union[at][3][own] != NONE]
    if not ends:
        return False
    need = {at: 1 + single[3][state] - union[at][3][states[at]] for at in ends}
    inner = [told for told in bounds + rests if not any(weight for at, weight in enumerate(told[0]) if at not in ends)]
    counting = [told for told in inner if len(told) == 2 and min(told[0]) >= 0 and any(told[0])]
    if any(sum([weights[at] * need[at] for at in ends]) > most for weights, most in counting):
        return True
    ranges = []
    for at in ends:
        tops = []
        for weights, most in counting:
            if weights[at] > 0:
                tops.append((most - sum([weights[k] * need[k] for k in ends if k != at])) // weights[at])
        if not tops:
            return False
        ranges.append(range(need[at], min(tops) + 1))
    many = 1
    for numbers in ranges:
        many *= max(0, numbers.stop - numbers.start)
    if many > 500:
        return False
    for numbers in itertools.product(*ranges):
        row = [0] * len(union)
        for at, number in zip(ends, numbers):
            row[at] = number
        if all_kept((None, [t for t in inner if len(t) == 2], [t for t in inner if len(t) == 3]), row):
            return False
    return True


def is_right(union, single, paper):
    """Tell whether a paper is right, as the definition says it."""
    if any(not told_cell(union, single, cell) for cell in paper):
        return False
    start = known_first(union, single)
    if start is not None and not any(cell[0] == start[0] and all_kept(cell, start[1]) for cell in paper):
        return False
    for cell in paper:
        for letter in single[0]:
            behind = known_behind(union, single, cell[0], letter)
            if behind is not None:
                if not any(after[0] == behind[0] and known_follows(cell, behind[1], after) for after in paper):
                    return False
        if single[3][cell[0][0]] != NONE and not known_shut(union, single, cell):
            return False
    return True


def random_sides(seed, many, states=2, most=2):
    """Return a list of pairs of a union and a single machine."""
    source = random.Random(seed)
    sides = []
    for _ in range(many):
        def one():
            if source.random() < 0.05:
                return EMPTY
            return random_single(source, source.randrange(1, states + 1), 2, source.choice([0.7, 0.9, 1]), most)
        union = tuple([one() for _ in range(source.randrange(1, 4))])
        single = source.choice([one(), one(), source.choice(union)])
        sides.append((union, single))
    return sides


class PlaceTest(unittest.TestCase):
    def test_the_examples(self):
        self.assertEqual(first_place(BOTH, HALF), ((0, (0, 0)), (0, 0)))
        self.assertEqual(place_behind(BOTH, HALF, (1, (0, 0)), "a"), ((0, (0, 0)), (0, -1)))

    def test_no_first_place(self):
        stuck = (("a", "b"), 4, (((0, 1), (0, 0)),), (NONE,))
        far = (("a", "b"), 4, (((0, 1), (0, 0)), ((0, 0), (0, 0))), (NONE, 3))
        for single in (EMPTY, stuck, far):
            self.assertIsNone(first_place(BOTH, single))
            self.assertIs(judge_cells(BOTH, single, ()), True)
        self.assertIs(judge_cells(BOTH, HALF, ()), False)

    def test_members_without_a_first_fare_and_such_that_stop(self):
        dear = (("a", "b"), 7, (((0, 5), (NONE, NONE)),), (0,))
        single = (("a", "b"), 3, (((0, 2), (0, 9)),), (0,))
        self.assertEqual(first_place((dear, EMPTY, COUNT_A), single), ((0, (0, NONE, 0)), (4, 0, -3)))
        place = (0, (0, NONE, 0))
        self.assertEqual(place_behind((dear, EMPTY, COUNT_A), single, place, "a"), (place, (3, 0, -1)))
        stopped = (0, (NONE, NONE, 0))
        self.assertEqual(place_behind((dear, EMPTY, COUNT_A), single, place, "b"), (stopped, (0, 0, -9)))
        self.assertEqual(place_behind((dear, EMPTY, COUNT_A), single, stopped, "a"), (stopped, (0, 0, -1)))

    def test_moves_to_states_that_are_not_open(self):
        single = (("a", "b"), 0, (((1, 2), (2, 0)), ((1, 0), (1, 0)), ((NONE, NONE), (0, 4))), (0, NONE, NONE))
        # State 1 leads to no end; state 2 leads back, and has no move by a.
        self.assertIsNone(place_behind(BOTH, single, (0, (0, 0)), "a"))
        self.assertEqual(place_behind(BOTH, single, (0, (0, 0)), "b"), ((2, (0, 0)), (0, 1)))
        self.assertIsNone(place_behind(BOTH, single, (2, (0, 0)), "a"))
        self.assertEqual(place_behind(BOTH, single, (2, (0, 0)), "b"), ((0, (0, 0)), (-4, -3)))

    def test_texts_that_are_no_letters(self):
        for text in ("c", "", "ab", "A"):
            with self.assertRaises(NotAllowed):
                place_behind(BOTH, HALF, (0, (0, 0)), text)

    def test_other_letters(self):
        for letters in (("b", "a"), ("a",), ("a", "b", "c")):
            single = ring(2, letters)
            for function, told in ((first_place, ()), (place_behind, ((0, (0, 0)), "a")), (judge_cells, ((),))):
                with self.assertRaises(NotAllowed):
                    function(BOTH, single, *told)

    def test_against_the_definition(self):
        for union, single in random_sides(280, 120, 3):
            start = first_place(union, single)
            self.assertEqual(start, known_first(union, single))
            if start is None:
                continue
            for log in logs_up_to(single[0], 3):
                place, gaps = start
                for letter in log:
                    behind = None if place is None else place_behind(union, single, place, letter)
                    place, steps = (None, None) if behind is None else behind
                    gaps = None if behind is None else tuple([gap + step for gap, step in zip(gaps, steps)])
                found = state_behind(single, log)
                self.assertEqual(place is not None, found is not None and found[0] in open_in(single))
                for at, member in enumerate(union if place is not None else ()):
                    known = state_behind(member, log) if member[2] else None
                    self.assertEqual(place[1][at], NONE if known is None else known[0])
                    if known is not None:
                        self.assertEqual(gaps[at], member[1] + known[1] - single[1] - found[1])


class JudgeTest(unittest.TestCase):
    def judge(self, union, single, paper, right=None):
        known = is_right(union, single, paper)
        self.assertIs(judge_cells(union, single, paper), known, (union, single, paper))
        if right is not None:
            self.assertIs(known, right, paper)
        return known

    def test_one_thing_changed(self):
        self.judge(BOTH, HALF, PAPER, True)
        for paper in variants(CELLS, PAPER):
            self.judge(BOTH, HALF, paper)
        for at in range(2):
            self.judge(BOTH, HALF, PAPER[:at] + PAPER[at + 1:], False)

    def test_needless_bounds_rests_and_cells(self):
        first, second = PAPER
        self.judge(BOTH, HALF, (first, second, first), True)
        self.judge(BOTH, HALF, (second, first), True)
        more = (first[0], first[1] + (((1, 0), 0),), ())
        # A bound on one alone does not follow from the other state: the gap of the first one grows by 1 by a.
        self.judge(BOTH, HALF, (more, second), False)
        self.judge(BOTH, HALF, (first, more, second), True)
        for bound, right in ((((0, 0), 0), True), (((0, 0), 5), True), (((0, 0), -1), False), (((1, 1), 9), True)):
            self.judge(BOTH, HALF, ((first[0], first[1] + (bound,), ()), second), right)
        for rest, right in (
            (((0, 0), 2, 0), True), (((0, 0), 2, 1), False), (((1, 1), 2, 0), False), (((0, 0), 1, 0), False),
            (((0, 0), 2, 2), False), (((0, 0), 2, -1), False), (((0, 0), 0, 0), False), (((0, 0), -2, 0), False),
            (((0,), 2, 0), False), (((0, 0, 0), 2, 0), False),
        ):
            self.judge(BOTH, HALF, ((first[0], first[1], (rest,)), second), right)
        # Behind one letter the sum of both gaps is 1, behind two it is 0 again; a modulus follows from a multiple of it.
        for ones, others, right in (
            (((2, 0),), ((2, 1),), True), (((4, 0), (2, 0)), ((4, 1), (2, 1)), True), (((2, 0),), ((4, 1),), False),
            (((4, 0),), ((2, 1),), False), (((4, 0),), ((4, 1), (2, 1)), True), (((4, 0), (2, 0)), ((4, 1),), True),
            (((2, 0),), ((2, 0),), False), (((9, 0),), ((9, 1), (3, 1)), True), (((9, 0),), ((9, 1), (6, 1)), False),
        ):
            paper = []
            for cell, rests in ((first, ones), (second, others)):
                paper.append(cell[:2] + (tuple([((1, 1), modulus, rest) for modulus, rest in rests]),))
            self.judge(BOTH, HALF, tuple(paper), right)

    def test_places_that_are_none(self):
        first, second = PAPER
        for place in ((2, (0, 0)), (-1, (0, 0)), (0, (0,)), (0, (0, 0, 0)), (0, (1, 0)), (0, (0, -2)), (0, ())):
            self.judge(BOTH, HALF, (first, second, (place, ((((1, 1), -9)),), ())), False)
        # A place of other states of the members has to be right, too, but need not come up.
        self.judge(BOTH, HALF, (first, second, ((0, (NONE, NONE)), (), ())), False)
        halves = (COUNT_A, HALF)
        paper = made_cells(halves, HALF)
        self.judge(halves, HALF, paper, True)
        for told, right in ((((0, (0, 1)), (((0, 0), -1),), ()), None), (((0, (NONE, 1)), (((1, 0), 0),), ()), False)):
            self.judge(halves, HALF, paper + (told,), right)

    def test_weights_of_members_that_have_stopped(self):
        stops = (("a", "b"), 0, (((0, 0), (NONE, NONE)),), (0,))
        union = (stops, COUNT_A)
        single = (("a", "b"), 0, (((0, 1), (0, 0)),), (0,))
        places = ((0, (0, 0)), (0, (NONE, 0)))
        for weights, right in (((0, 1), True), ((1, 1), False), ((1, 0), False), ((-1, 1), False)):
            known = (((0, 1), 0), ((1, 1), 0), ((1, 0), 0), ((-1, 1), 0))
            self.judge(union, single, ((places[0], known, ()), (places[1], ((weights, 0),), ())))
            plain = ((places[0], (((0, 1), 0),), ()), (places[1], ((weights, 0),), ()))
            self.judge(union, single, plain, right)
        for rest, right in ((((0, 1), 2, 0), True), (((1, 0), 2, 0), False)):
            plain = ((places[0], (((0, 1), 0),), (((0, 1), 2, 0),)), (places[1], (((0, 1), 0),), (rest,)))
            self.judge(union, single, plain, right)

    def test_cells_that_are_shut_row_by_row(self):
        # Members that are each dearer by 1 for a letter and cheaper for the other: no bound alone shuts the cell.
        single = (("a", "b"), 0, (((0, 0), (0, 0)),), (0,))
        up = (("a", "b"), 0, (((0, 2), (0, 0)),), (0,))
        down = (("a", "b"), 1, (((0, 0), (0, 2)),), (0,))
        place = (0, (0, 0))
        for bounds, rests in (
            ((((1, 1), 5),), ()), ((((1, 1), 2),), ()), ((((1, 1), 1),), ()), ((((1, 0), 3), ((0, 1), 3)), ()),
            ((((1, 0), 3), ((0, 1), 3), ((-1, -1), -7)), ()), ((((1, 0), 3), ((0, 1), 3), ((1, -1), -9)), ()),
            ((((1, 0), 3), ((0, 1), 3)), (((1, 1), 10, 0),)), ((((1, 0), 3), ((0, 1), 3)), (((1, 0), 5, 0),)),
            ((((1, 0), 3),), ()), ((), ()), ((((2, 3), 10),), (((1, 0), 2, 0), ((0, 1), 2, 0))),
        ):
            cell = (place, bounds, rests)
            for union in ((up, down), (COUNT_A, COUNT_B)):
                self.judge(union, single, (cell,))
        # Without moves nothing has to follow.
        alone = LAST
        kinds = set()
        for union in ((up, down), (COUNT_A, COUNT_B)):
            for most in range(-2, 5):
                for other, modulus in itertools.product(range(-1, 4), (2, 3)):
                    bounds = (((1, 0), most), ((0, 1), other), ((2, 1), most + other))
                    rests = (((1, 1), modulus, (union[0][1] + union[1][1]) % modulus), ((1, 0), 2, 0))
                    kinds.add(self.judge(union, alone, (((0, (0, 0)), bounds, rests),)))
        self.assertEqual(kinds, {True, False})

    def test_just_500_rows(self):
        # One end of two is enough: the other one has no last fare, and its bounds do not count.
        alone = LAST
        for most, right in ((0, True), (1, True), (499, True), (500, True), (501, False), (502, False), (10 ** 30, False)):
            # Only even gaps keep the rest, and only odd ones the other: none of the rows keeps both.
            cell = ((0, (0, 0)), (((1, 0), most),), (((1, 0), 4, 0), ((1, 0), 2, 0), ((3, 0), 2, 0)))
            odd = ((0, (0, 0)), (((1, 0), most), ((-1, 0), 0)), (((1, 0), 1000, 0),))
            union = (COUNT_A, COUNT_B[:3] + ((NONE,),))
            self.judge(union, alone, (odd,), right)
            self.judge(union, alone, (cell,))
        # 20 rows of 25, or of 26.
        for tops, right in (((20, 25), True), ((25, 20), True), ((20, 26), False), ((1, 500), True), ((1, 501), False)):
            bounds = (((1, 0), tops[0]), ((0, 1), tops[1]))
            rests = (((1, 0), 1000, 0), ((0, 1), 1000, 0))
            self.judge(BOTH, alone, (((0, (0, 0)), bounds, rests),), right)

    def test_one_cell_alone(self):
        # Without moves nothing has to follow, so that each cell stands for itself.
        right = (((1, 1), -1),)
        self.judge(BOTH, LAST, (((0, (0, 0)), (((1, 1), 1), ((1, 0), 0)), ()),), True)
        start = ((0, (0, 0)), (((1, 0), 0),), ())
        for cell, known in (
            (((0, (0, 0)), right, ()), True), (((0, (0,)), (((1,), -9),), ()), False), (((0, (0, 0)), (((1, 1), 9),), ()), False),
            (((0, (0, 0)), (((0, 0), -1),), ()), False), (((0, (0, 0)), (), (((0, 0), 2, 1),)), False),
            (((0, (0, 0)), right, (((1, 1), 2, 1),)), True), (((0, (0, 0)), right, (((1, 1), 2, 2),)), False),
            (((0, (0, 0)), right, (((1, 1), 2, -1),)), False), (((0, (0, 0)), right, (((1, 1), 1, 0),)), False),
            (((0, (0, 0, 0)), (((1, 1, 1), -9),), ()), False), (((1, (0, 0)), right, ()), False),
            (((0, (1, 0)), right, ()), False), (((0, (-2, 0)), right, ()), False), (((0, (NONE, 0)), (((0, 1), 0),), ()), True),
            (((0, (NONE, 0)), (((1, 0), -1),), ()), False), (((0, (NONE, NONE)), (((0, 0), -1),), ()), False),
        ):
            self.judge(BOTH, LAST, (start, cell), known)
        for paper in ((start[:2] + ((((1, 1), 2, 2),),),), (start[:2] + ((((1, 1), 2, -2),),),), (start[:2] + ((((1, 1), 2, 0),),),)):
            self.judge(BOTH, LAST, paper, paper[0][2][0][2] == 0)

    def test_the_least_top_counts(self):
        for tops, known in (((400, 600), True), ((600, 400), True), ((501, 600), False), ((500, 10 ** 9), True)):
            bounds = tuple([((1, 0), top) for top in tops]) + (((0, 1), 1),)
            self.judge(BOTH, LAST, (((0, (0, 0)), bounds, (((1, 0), 1000, 0),)),), known)

    def test_only_what_is_0_for_members_that_do_not_end(self):
        union = (COUNT_A, COUNT_B[:3] + ((NONE,),))
        for bounds, rests, known in (
            ((((1, 0), 3), ((-1, 0), 0)), (), False), ((((1, 0), 0),), (), True), ((((1, 0), 3), ((1, 1), 0)), (), False),
            ((((1, 0), 3), ((-1, 1), -1)), (), False), ((((1, 0), 3),), (((1, 0), 9, 0),), True),
            ((((1, 0), 3),), (((1, 1), 9, 0),), False), ((((1, 0), 3),), (((1, 0), 3, 0),), False), ((((1, 1), 0),), (), False),
        ):
            self.judge(union, LAST, (((0, (0, 0)), bounds, rests),), known)

    def test_what_follows_from_other_weights(self):
        first, second = PAPER
        for ones, others in (
            ((), (((0, 0), -1),)), ((((0, 0), -1),), (((0, 0), -1),)), ((((1, 0), 0),), (((1, 1), 0),)),
            ((((1, 1), 0),), (((2, 2), 2),)), ((((2, 2), 0),), (((2, 2), 2),)), ((((2, 2), 0),), (((2, 2), 1),)),
        ):
            self.judge(BOTH, HALF, ((first[0], first[1] + ones, ()), (second[0], second[1] + others, ())))
        for ones, others, known in (
            ((((1, 0), 2, 0),), (((1, 1), 2, 1),), False), ((), (((0, 0), 2, 1),), False), ((), (((0, 0), 2, 0),), True),
            ((((0, 1), 2, 0),), (((1, 1), 2, 1),), False), ((((0, 0), 2, 0),), (((1, 1), 2, 1),), False),
        ):
            self.judge(BOTH, HALF, ((first[0], first[1], ones), (second[0], second[1], others)), known)

    def test_members_that_do_not_end(self):
        alone = LAST
        never = COUNT_A[:3] + ((NONE,),)
        for bounds in ((((1, 0), -9),), (((0, 1), -9),), (((1, 1), -9),), (((-1, 1), -9),), (((0, -1), -9),)):
            for union in ((COUNT_A, never), (never, COUNT_B), (never, never), BOTH):
                for start in (0, 100):
                    union = tuple([member[:1] + (start,) + member[2:] for member in union])
                    single = alone[:1] + (start + 50,) + alone[2:]
                    self.judge(union, single, (((0, (0, 0)), bounds, ()),))

    def test_made_papers_and_such_with_one_thing_changed(self):
        source = random.Random(281)
        judged = {True: 0, False: 0}
        for union, single in random_sides(282, 150):
            paper = made_cells(union, single)
            if len(paper) > 8:
                continue
            papers = variants(CELLS, paper)
            papers = [paper] + source.sample(papers, min(len(papers), 30))
            for changed in papers:
                judged[self.judge(union, single, changed)] += 1
        self.assertGreater(min(judged.values()), 200, judged)

    def test_small_papers(self):
        source = random.Random(283)
        judged = {True: 0, False: 0}
        weights = [(0, 1), (1, 0), (1, 1), (1, 2), (0, 0), (-1, 1), (2, 1)]
        for union, single in random_sides(284, 400, 1, 3):
            union = (union + union)[:2]
            place = (0, tuple([0 if member[2] else NONE for member in union]))
            bounds = tuple([(source.choice(weights), source.randrange(-2, 3)) for _ in range(source.randrange(4))])
            rests = [(source.choice(weights), source.randrange(1, 5)) for _ in range(source.randrange(3))]
            rests = tuple([(told, modulus, source.randrange(modulus + 1)) for told, modulus in rests])
            judged[self.judge(union, single, ((place, bounds, rests),))] += 1
        self.assertGreater(min(judged.values()), 5, judged)

    def test_never_a_right_paper_where_a_log_is_dearer(self):
        right = 0
        for union, single in random_sides(285, 150):
            if judge_cells(union, single, made_cells(union, single)):
                right += 1
                for log in logs_up_to(single[0], 5):
                    cost, fare = cost_of(single, log), union_fare(union, log)
                    self.assertTrue(cost == NONE or NONE < fare <= cost, (union, single, log))
        self.assertGreater(right, 40)
