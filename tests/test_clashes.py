"""Tests of faremachines.clashes: receipts that contradict one another, what fits, errors and papers ([10.6], [10.7])."""

import itertools
import random
import unittest
from fractions import Fraction

from faremachines.clashes import clashes, error_paper, first_clash, fitting, is_error_paper
from faremachines.errors import NotAllowed, TooLarge
from faremachines.spans import contradiction
from tests import receipts as told
from tests.samples import NONE, answer_of
from tests.test_spans import BARE, DEAR, changed_ratios
from tests.test_tariffs import FRAME, ONCE, RECEIPTS, TWICE

LIST = RECEIPTS + [DEAR]


def possible(frame, receipts):
    """Tell whether a tariff is possible, as papers show it."""
    paper = answer_of(contradiction, frame, receipts)
    assert paper == "Missing" or told.is_contradiction(frame, receipts, paper)
    return paper == "Missing"


def known_parts(frame, receipts):
    """Return a dict of all ascending tuples of indexes, and whether a tariff is possible with these receipts alone."""
    indexes = range(len(receipts))
    parts = [part for size in range(len(receipts) + 1) for part in itertools.combinations(indexes, size)]
    return {part: possible(frame, [receipts[at] for at in part]) for part in parts}


def without(part, at):
    """Return a tuple of indexes without one."""
    return tuple([other for other in part if other != at])


class ClashTest(unittest.TestCase):
    def test_the_example(self):
        self.assertEqual((first_clash(FRAME, LIST), clashes(FRAME, LIST), fitting(FRAME, LIST)), (3, [(1, 2)], [(0, 1), (0, 2)]))

    def test_against_all_parts(self):
        many = {"none": 0, "one": 0, "several": 0}
        for frame, receipts in told.cases(790, 120, 6, 0.8):
            parts = known_parts(frame, receipts)
            clashing = [part for part in parts if not parts[part] and all(parts[without(part, at)] for at in part)]
            fits = [
                part for part in parts
                if parts[part] and not any(parts[tuple(sorted(part + (at,)))] for at in range(len(receipts)) if at not in part)
            ]
            found = clashes(frame, receipts)
            self.assertEqual(found, clashing, (frame, receipts))
            self.assertEqual(fitting(frame, receipts), fits, (frame, receipts))
            many["none" if not found else "one" if len(found) == 1 else "several"] += 1
            # Each part has a clash, or is part of what fits, and not both.
            for part in parts:
                has = any(set(clash) <= set(part) for clash in found)
                self.assertNotEqual(has, any(set(part) <= set(fit) for fit in fits))
            sizes = [size for size in range(len(receipts) + 1) if not parts[tuple(range(size))]]
            self.assertEqual(first_clash(frame, receipts), min(sizes, default=0))
        self.assertGreater(min(many.values()), 10, many)

    def test_no_clash(self):
        self.assertEqual((first_clash(FRAME, []), clashes(FRAME, []), fitting(FRAME, [])), (0, [], [()]))
        self.assertEqual((first_clash(BARE, []), clashes(BARE, []), fitting(BARE, [])), (0, [], [()]))
        self.assertEqual((first_clash(FRAME, RECEIPTS), clashes(FRAME, RECEIPTS), fitting(FRAME, RECEIPTS)), (0, [], [(0, 1)]))
        eight = RECEIPTS * 4
        self.assertEqual((first_clash(FRAME, eight), clashes(FRAME, eight), fitting(FRAME, eight)), (0, [], [tuple(range(8))]))

    def test_receipts_that_are_there_twice(self):
        one, other = ("paid", ("a",), (0, 1), "=", 7), ("paid", ("a",), (0, 1), "=", 8)
        self.assertEqual(clashes(FRAME, [one, other, one, other]), [(0, 1), (0, 3), (1, 2), (2, 3)])
        self.assertEqual(fitting(FRAME, [one, other, one, other]), [(0, 2), (1, 3)])
        self.assertEqual(first_clash(FRAME, [one, one, one, other]), 4)

    def test_receipts_that_cannot_be_true_at_all(self):
        never = ("paid", ("a",), (0, 1), ">=", 298)
        self.assertEqual(clashes(FRAME, [never, RECEIPTS[0], never]), [(0,), (2,)])
        self.assertEqual(fitting(FRAME, [never, RECEIPTS[0], never]), [(1,)])
        self.assertEqual((clashes(FRAME, [never]), fitting(FRAME, [never]), first_clash(FRAME, [never])), ([(0,)], [()], 1))
        self.assertEqual(clashes(FRAME, [("paid", ("a",), (0, 1), ">=", 297)]), [])

    def test_eight_that_clash_in_pairs(self):
        eight = [("paid", ("a",), (0, 1), "=", amount) for amount in range(8)]
        self.assertEqual(clashes(FRAME, eight), list(itertools.combinations(range(8), 2)))
        self.assertEqual(fitting(FRAME, eight), [(at,) for at in range(8)])
        self.assertEqual(first_clash(FRAME, eight), 2)

    def test_a_clash_of_many(self):
        # By any two of these each turn costs 3, so that 9 letters cost 31; by one of them alone they may cost 42.
        steps = [("paid", ("a",) * n, (0,) * n + (1,), "=", 7 + 3 * (n - 1)) for n in (1, 2, 4)]
        receipts = steps + [("paid", ("a",) * 9, (0,) * 9 + (1,), ">=", 40)]
        self.assertEqual(clashes(FRAME, receipts), [(0, 1, 3), (0, 2, 3), (1, 2, 3)])
        self.assertEqual(fitting(FRAME, receipts), [(0, 3), (1, 3), (2, 3), (0, 1, 2)])

    def test_errors_of_receipts(self):
        no_receipt, no_way = ("paid", ("a",), (0, 1), "!", 7), ("least", ("a",), (1, 1))
        nine = RECEIPTS * 4 + RECEIPTS[:1]
        large = (("a", "b"), (0,) * 3, ((((0, 0), (1, 0), (2, 0)),) * 2,) * 3, (0,) * 3)
        for frame, receipts, error in (
            (FRAME, [no_receipt], NotAllowed), (FRAME, [no_way], NotAllowed), (FRAME, nine, TooLarge), (large, [], TooLarge),
            (FRAME, nine[1:] + [no_way], TooLarge), (FRAME, nine + [no_receipt], NotAllowed),
            (TWICE, [("least", ("a",) * 5, (0,) * 6)], TooLarge),
        ):
            for function, arguments in (
                (first_clash, ()), (clashes, ()), (fitting, ()), (error_paper, ()), (is_error_paper, (((0, 1), (), (), ()),)),
            ):
                with self.assertRaises(error, msg=(function, receipts)) as caught:
                    function(frame, receipts, *arguments)
                self.assertIs(type(caught.exception), error)

    def test_lists_are_left_as_they_are(self):
        receipts = list(LIST)
        clashes(FRAME, receipts).clear()
        fitting(FRAME, receipts).clear()
        self.assertEqual((receipts, clashes(FRAME, receipts)), (LIST, [(1, 2)]))


class ErrorPaperTest(unittest.TestCase):
    def test_the_example(self):
        self.assertEqual(error_paper(FRAME, LIST)[0], (1, 1))
        self.assertIs(is_error_paper(FRAME, RECEIPTS, error_paper(FRAME, RECEIPTS)), True)

    def test_there_is_a_right_one_for_each_list(self):
        least = {True: 0, False: 0}
        for frame, receipts in told.cases(791, 200, 8, 0.6):
            paper = error_paper(frame, receipts)
            self.assertTrue(told.is_error_paper(frame, receipts, paper), (frame, receipts, paper))
            self.assertIs(is_error_paper(frame, receipts, paper), True)
            self.assertEqual(paper[0] == (0, 1), possible(frame, receipts))
            least[paper[0] == (0, 1)] += 1
        self.assertGreater(min(least.values()), 40, least)
        self.assertEqual(error_paper(BARE, []), ((0, 1), (), (), ()))
        self.assertIs(is_error_paper(BARE, [], ((0, 1), (), (), ())), True)

    def test_papers_with_one_thing_changed(self):
        source = random.Random(792)
        judged = {True: 0, False: 0}
        for frame, receipts in told.cases(793, 60, 5, 0.8):
            paper = error_paper(frame, receipts)
            papers = [(other[0],) + paper[1:] for other in changed_ratios(paper[:1]) if len(other) == 1]
            for at in (1, 2, 3):
                papers += [paper[:at] + (other,) + paper[at + 1:] for other in changed_ratios(paper[at])]
            if paper[0] != (0, 1):
                # Multipliers twice as great show twice as much, and are above 1 then.
                twice = tuple([(Fraction(2 * p, q).numerator, Fraction(2 * p, q).denominator) for p, q in paper[3]])
                double = Fraction(*paper[0]) * 2
                more = tuple([(Fraction(2 * p, q).numerator, Fraction(2 * p, q).denominator) for p, q in paper[2]])
                double = (double.numerator, double.denominator)
                papers += [paper[:3] + (twice,), (double,) + paper[1:3] + (twice,), (double, paper[1], more, twice)]
            for changed in [paper] + source.sample(papers, min(len(papers), 60)) + papers[-3:]:
                right = told.is_error_paper(frame, receipts, changed)
                self.assertIs(is_error_paper(frame, receipts, changed), right, (frame, receipts, changed))
                judged[right] += 1
            for at in range(len(receipts)):
                less = receipts[:at] + receipts[at + 1:]
                self.assertIs(is_error_paper(frame, less, paper), told.is_error_paper(frame, less, paper))
        self.assertGreater(min(judged.values()), 100, judged)

    def test_one_by_one(self):
        zero = (0, 1)
        right = ((1, 1), ((7, 1), (3, 1), zero, zero), (zero, zero, zero, (1, 1)), (zero, zero, (1, 1), (1, 1)) + (zero,) * 4)
        self.assertIs(is_error_paper(FRAME, LIST, right), True)
        # The error may be shared.
        shared = right[:1] + (((7, 1), (7, 2), zero, zero), (zero, zero, (1, 2), (1, 2)), right[3])
        self.assertIs(is_error_paper(FRAME, LIST, shared), True)
        for changed in (
            ((2, 2),) + right[1:], ((0, 1),) + right[1:], ((2, 1),) + right[1:], ((-1, 1),) + right[1:], ((1, 0),) + right[1:],
            right[:1] + (((7, 1), (4, 1), zero, zero),) + right[2:], right[:1] + (((100, 1), (3, 1), zero, zero),) + right[2:],
            right[:1] + (((14, 2), (3, 1), zero, zero),) + right[2:], right[:1] + (right[1][:3],) + right[2:],
            right[:2] + ((zero, zero, (1, 1), zero), right[3]), right[:2] + ((zero, zero, zero, (2, 1)), right[3]),
            right[:2] + ((zero, zero, zero, (1, 1), zero), right[3]), right[:2] + ((zero, (1, 1), (-1, 1), (1, 1)), right[3]),
            right[:3] + ((zero, zero, (2, 1), (2, 1)) + (zero,) * 4,), right[:3] + ((zero, zero, (1, 1), (1, 2)) + (zero,) * 4,),
            right[:3] + ((zero,) * 8,), right[:3] + (right[3][:-1],), right[:3] + (right[3] + (zero,),),
            ((2, 1),) + right[1:2] + ((zero, zero, (1, 1), (1, 1)), right[3]),
            ((2, 1),) + right[1:2] + ((zero, zero, (1, 1), (1, 1)), (zero, zero, (2, 1), (2, 1)) + (zero,) * 4),
        ):
            self.assertIs(is_error_paper(FRAME, LIST, changed), False, changed)

    def test_multipliers_of_the_last_rows_may_be_greater(self):
        # 99 each at most: 298 for three unknowns is 1 too much, and each of the last rows counts once.
        receipts = [("paid", ("a",), (0, 1), ">=", 298), ("paid", ("a",), (0, 1), ">=", 300)]
        paper = error_paper(FRAME, receipts)
        self.assertEqual(paper[0], (4, 1))
        self.assertEqual(paper[1][0], (99, 1))
        self.assertIn((2, 1), paper[3][2:])
        self.assertTrue(told.is_error_paper(FRAME, receipts, paper))

    def test_ratios_that_are_no_integers(self):
        receipts = [
            ("paid", (), (0,), "=", 1), ("paid", ("a", "a"), (0, 0, 0), "=", 2), ("paid", ("a",) * 3, (0,) * 4, "=", 3),
        ]
        frame = (("a",), (0,), ((((0, 0),),),), (0,))
        paper = error_paper(frame, receipts)
        self.assertTrue(told.is_error_paper(frame, receipts, paper))
        self.assertEqual(paper[0], (1, 3))

    def test_many_rows(self):
        source = random.Random(794)
        for _ in range(6):
            amount = source.randrange(3, 40)
            receipts = [("least", ("a",) * n, (0,) * (n - source.randrange(1, n)) + (1,) * n) for n in (12, 11, 10, 9, 8, 7)]
            receipts = [(word, log, way[:len(log) + 1]) for word, log, way in receipts]
            receipts += [("paid", ("a",) * 12, (0,) * 12 + (1,), "<=", amount), ("paid", ("a",), (0, 1), ">=", 50)]
            paper = error_paper(ONCE, receipts)
            self.assertTrue(told.is_error_paper(ONCE, receipts, paper))

    def test_without_fares(self):
        self.assertEqual(answer_of(error_paper, FRAME, [("paid", ("a",), (0, NONE), "=", 7)]), "NotAllowed")
