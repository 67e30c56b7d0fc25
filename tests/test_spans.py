"""Tests of faremachines.spans: papers for what is greatest, and of contradiction; spans, certain, open ([10.4], [10.5])."""

import random
import unittest
from fractions import Fraction

from faremachines.errors import Missing, NotAllowed, TooLarge
from faremachines.spans import contradiction, is_certain, is_contradiction, is_open, is_top_paper, log_span, top_paper
from faremachines.spans import way_span
from tests import receipts as told
from tests.samples import NONE, answer_of, random_machine
from tests.test_tariffs import FRAME, ONCE, RECEIPTS, TWICE

DEAR = ("paid", ("a", "a"), (0, 0, 1), ">=", 11)
BARE = (("a",), (NONE,), (((),),), (NONE,))


def numbers_for(source, frame):
    """Return some numbers for the unknowns."""
    return tuple([source.randrange(-3, 4) for _ in told.unknowns(frame)])


def changed_ratios(ratios):
    """Return a list of ratios, each with one thing changed."""
    found = [ratios[:-1], ratios + ((0, 1),), ()]
    for at, (p, q) in enumerate(ratios):
        for other in ((p + 1, q), (p - 1, q), (2 * p, 2 * q), (-p, -q), (p, q + 1), (p, 0), (-1, 1), (0, 1), (1, 1)):
            found.append(ratios[:at] + (other,) + ratios[at + 1:])
        if at:
            found.append(ratios[:at - 1] + (ratios[at], ratios[at - 1]) + ratios[at + 1:])
    return found


def tried_tariffs(source, frame, receipts, many):
    """Return a list of possible tariffs that are tried out, among them the machine's own one if it is possible."""
    own = told.own_tariff(frame)
    found = [own]
    for _ in range(many):
        ratios = [ratio if source.random() < 0.6 else (source.randrange(30), source.randrange(1, 3)) for ratio in own]
        ratios = [Fraction(*ratio) for ratio in ratios]
        found.append(tuple([(ratio.numerator, ratio.denominator) for ratio in ratios]))
    return [tariff for tariff in found if told.is_possible(frame, receipts, tariff)]


class PaperTest(unittest.TestCase):
    def test_either_top_papers_or_a_contradiction(self):
        source = random.Random(770)
        seen = {"top": 0, "contradiction": 0}
        for frame, receipts in told.cases(771, 200, 8, 0.5):
            paper = answer_of(contradiction, frame, receipts)
            for _ in range(3):
                numbers = numbers_for(source, frame)
                top = answer_of(top_paper, frame, receipts, numbers)
                self.assertEqual(top == "Missing", paper != "Missing", (frame, receipts))
                if top != "Missing":
                    self.assertTrue(told.is_top_paper(frame, receipts, numbers, top), (frame, receipts, numbers, top))
                    self.assertIs(is_top_paper(frame, receipts, numbers, top), True)
                    for tariff in tried_tariffs(source, frame, receipts, 4):
                        sums = told.summed(numbers, [Fraction(*ratio) for ratio in tariff])
                        self.assertLessEqual(sums, Fraction(*top[0]))
            if paper != "Missing":
                self.assertTrue(told.is_contradiction(frame, receipts, paper), (frame, receipts, paper))
                self.assertIs(is_contradiction(frame, receipts, paper), True)
                self.assertEqual(tried_tariffs(source, frame, receipts, 4), [])
            seen["top" if paper == "Missing" else "contradiction"] += 1
        self.assertGreater(min(seen.values()), 40, seen)

    def test_top_papers_with_one_thing_changed(self):
        source = random.Random(772)
        judged = {True: 0, False: 0}
        for frame, receipts in told.cases(773, 60, 4, 0.2):
            numbers = numbers_for(source, frame)
            paper = answer_of(top_paper, frame, receipts, numbers)
            if paper == "Missing":
                continue
            value, tariff, multipliers = paper
            papers = [(other[0], tariff, multipliers) for other in changed_ratios((value,)) if len(other) == 1]
            papers += [(value, other, multipliers) for other in changed_ratios(tariff)]
            papers += [(value, tariff, other) for other in changed_ratios(multipliers)]
            for changed in [paper] + source.sample(papers, min(len(papers), 60)):
                right = told.is_top_paper(frame, receipts, numbers, changed)
                self.assertIs(is_top_paper(frame, receipts, numbers, changed), right, (frame, receipts, numbers, changed))
                judged[right] += 1
            # A paper for other numbers, or for a list with a receipt less.
            for at in range(len(numbers)):
                for more in (-1, 1):
                    other = numbers[:at] + (numbers[at] + more,) + numbers[at + 1:]
                    right = told.is_top_paper(frame, receipts, other, paper)
                    self.assertIs(is_top_paper(frame, receipts, other, paper), right)
                    judged[right] += 1
            for at in range(len(receipts)):
                less = receipts[:at] + receipts[at + 1:]
                right = told.is_top_paper(frame, less, numbers, paper)
                self.assertIs(is_top_paper(frame, less, numbers, paper), right)
                judged[right] += 1
        self.assertGreater(min(judged.values()), 100, judged)

    def test_contradictions_with_one_thing_changed(self):
        source = random.Random(774)
        judged = {True: 0, False: 0}
        for frame, receipts in told.cases(775, 150, 6, 0.9):
            paper = answer_of(contradiction, frame, receipts)
            if paper == "Missing":
                size = len(told.rows(frame, receipts))
                for made_up in (((0, 1),) * size, ((1, 1),) * size, ()):
                    self.assertIs(is_contradiction(frame, receipts, made_up), False)
                continue
            papers = changed_ratios(paper)
            papers += [tuple([(3 * p, q) if q % 3 else (p, q // 3) for p, q in paper])]
            for changed in [paper] + source.sample(papers, min(len(papers), 40)) + papers[-1:]:
                right = told.is_contradiction(frame, receipts, changed)
                self.assertIs(is_contradiction(frame, receipts, changed), right, (frame, receipts, changed))
                judged[right] += 1
            for at in range(len(receipts)):
                less = receipts[:at] + receipts[at + 1:]
                self.assertIs(is_contradiction(frame, less, paper), told.is_contradiction(frame, less, paper))
        self.assertGreater(min(judged.values()), 100, judged)

    def test_numbers_too_few_or_too_many(self):
        paper = top_paper(FRAME, RECEIPTS, (0, 1, 0, 0))
        for numbers in ((), (0, 1, 0), (0, 1, 0, 0, 0)):
            for receipts in (RECEIPTS, RECEIPTS + [DEAR]):
                with self.assertRaises(NotAllowed):
                    top_paper(FRAME, receipts, numbers)
                with self.assertRaises(NotAllowed):
                    is_top_paper(FRAME, receipts, numbers, paper)
        with self.assertRaises(Missing):
            top_paper(FRAME, RECEIPTS + [DEAR], (0, 1, 0, 0))
        with self.assertRaises(Missing):
            contradiction(FRAME, RECEIPTS)

    def test_without_receipts(self):
        value, tariff, multipliers = top_paper(FRAME, [], (2, -1, 0, 1))
        self.assertEqual((value, len(multipliers)), ((297, 1), 4))
        self.assertEqual((tariff[0], tariff[1], tariff[3]), ((99, 1), (0, 1), (99, 1)))
        self.assertEqual(top_paper(FRAME, [], (0, 0, 0, 0))[0], (0, 1))
        self.assertEqual(top_paper(FRAME, [], (-1, -2, -3, 0))[0], (0, 1))
        self.assertEqual(top_paper(BARE, [], ()), ((0, 1), (), ()))
        self.assertIs(is_top_paper(BARE, [], (), ((0, 1), (), ())), True)
        self.assertIs(is_contradiction(BARE, [], ()), False)
        with self.assertRaises(Missing):
            contradiction(BARE, [])

    def test_ratios_that_are_no_integers(self):
        receipts = [("paid", ("a", "a"), (0, 0, 1), "=", 7), ("paid", ("a",) * 3, (0, 0, 0, 1), "=", 10), ("least", ("a", "a"), (0, 0, 1))]
        paper = top_paper(FRAME, receipts, (5, 0, 0, 7))
        self.assertTrue(told.is_top_paper(FRAME, receipts, (5, 0, 0, 7), paper))
        thirds = [("paid", ("a",) * 4, (0,) * 4 + (1,), "<=", 10), ("paid", ("a",), (0, 1), ">=", 3)]
        self.assertEqual(top_paper(FRAME, thirds, (0, 1, 0, 0))[0], (7, 3))
        self.assertEqual(top_paper(FRAME, thirds, (0, -1, 0, 0))[0], (0, 1))

    def test_errors_of_receipts(self):
        no_receipt, no_way = ("paid", ("a",), (0, 1), "!", 7), ("least", ("a",), (1, 1))
        nine = RECEIPTS * 4 + RECEIPTS[:1]
        large = (("a", "b"), (0,) * 3, ((((0, 0), (1, 0), (2, 0)),) * 2,) * 3, (0,) * 3)
        for frame, receipts, error in (
            (FRAME, [no_receipt], NotAllowed), (FRAME, [no_way], NotAllowed), (FRAME, nine, TooLarge), (large, [], TooLarge),
            (FRAME, nine[1:] + [no_way], TooLarge), (FRAME, nine + [no_receipt], NotAllowed), (large, [no_receipt], NotAllowed),
            (TWICE, [("least", ("a",) * 5, (0,) * 6)], TooLarge),
        ):
            for function, arguments in (
                (top_paper, (receipts, ())), (is_top_paper, (receipts, (), ((0, 1), (), ()))), (contradiction, (receipts,)),
                (is_contradiction, (receipts, ())), (way_span, (receipts, ("x",), (9,))), (log_span, (receipts, ("x",))),
                (is_certain, (receipts, ("least", (), (9,)))), (is_open, (receipts, ("least", (), (9,)))),
                (is_certain, (receipts[:-1], (receipts or [("least", (), (9,))])[-1])),
            ):
                with self.assertRaises(error, msg=(function, receipts)) as caught:
                    function(frame, *arguments)
                self.assertIs(type(caught.exception), error, (function, frame, receipts))


class SpanTest(unittest.TestCase):
    def test_the_example(self):
        self.assertEqual(way_span(FRAME, RECEIPTS, ("a", "a"), (0, 0, 1)), ((7, 1), (10, 1)))
        self.assertEqual(log_span(FRAME, RECEIPTS, ("a", "a", "a")), ((7, 1), (13, 1)))

    def test_one_number_and_whole_ranges(self):
        self.assertEqual(way_span(FRAME, RECEIPTS, ("a",), (0, 1)), ((7, 1), (7, 1)))
        self.assertEqual(log_span(FRAME, RECEIPTS, ("a",)), ((7, 1), (7, 1)))
        self.assertEqual(way_span(FRAME, [], ("a", "a"), (0, 0, 1)), ((0, 1), (396, 1)))
        self.assertEqual(log_span(FRAME, [], ("a", "a")), ((0, 1), (396, 1)))
        self.assertEqual(way_span(FRAME, [], ("a",) * 400, (0,) * 400 + (1,)), ((0, 1), (402 * 99, 1)))
        self.assertEqual(log_span(FRAME, [], ("a",) * 400), ((0, 1), (402 * 99, 1)))
        self.assertEqual(log_span(FRAME, RECEIPTS, ("a",) * 400), ((7, 1), (7 + 3 * 399, 1)))

    def test_by_top_papers(self):
        source = random.Random(776)
        seen = {"Missing": 0, "span": 0, "one": 0}
        for frame, receipts in told.cases(777, 100, 6, 0.3):
            log = tuple(source.choices(frame[0], k=source.randrange(5)))
            for way in told.ways(frame, log)[:3]:
                span = answer_of(way_span, frame, receipts, log, way)
                counts = told.counts(frame, log, way)
                top = answer_of(top_paper, frame, receipts, counts)
                if top == "Missing":
                    self.assertEqual(span, "Missing")
                    seen["Missing"] += 1
                    continue
                low = top_paper(frame, receipts, tuple([-count for count in counts]))[0]
                self.assertEqual(span, ((-low[0], low[1]), top[0]))
                seen["one" if span[0] == span[1] else "span"] += 1
        self.assertGreater(min(seen.values()), 5, seen)

    def test_logs_with_several_ways(self):
        source = random.Random(778)
        seen = {"narrower": 0, "same": 0}
        for frame, receipts in told.cases(779, 250, 6, 0.1):
            log = tuple(source.choices(frame[0], k=source.randrange(1, 5)))
            ways = told.ways(frame, log)
            if not 2 <= len(ways) <= 30:
                continue
            spans = [answer_of(way_span, frame, receipts, log, way) for way in ways]
            span = answer_of(log_span, frame, receipts, log)
            if "Missing" in spans:
                self.assertEqual(span, "Missing")
                continue
            low, high = [Fraction(*ratio) for ratio in span]
            self.assertEqual(low, min([Fraction(*one[0]) for one in spans]))
            most = min([Fraction(*one[1]) for one in spans])
            self.assertLessEqual(high, most)
            seen["narrower" if high < most else "same"] += 1
            for tariff in tried_tariffs(source, frame, receipts, 6):
                ratios = [Fraction(*ratio) for ratio in tariff]
                fare = min([told.summed(told.counts(frame, log, way), ratios) for way in ways])
                self.assertTrue(low <= fare <= high)
            # The greatest fare is more than what another sum of the ways' costs lets it be: no mean of them is less.
            for way in ways:
                self.assertLessEqual(high, Fraction(*top_paper(frame, receipts, told.counts(frame, log, way))[0]))
            total = tuple([sum(column) for column in zip(*[told.counts(frame, log, way) for way in ways])])
            self.assertLessEqual(high * len(ways), Fraction(*top_paper(frame, receipts, total)[0]))
        self.assertGreater(min(seen.values()), 0, seen)

    def test_where_one_way_is_dear_just_if_the_other_one_is_cheap(self):
        # The moves x and y, and nothing else, cost so much together: by a, one of them is to be paid.
        frame = (("a",), (0, NONE), ((((0, 0), (1, 0)),), ((),)), (0, 0))
        for amount, middle in ((20, (10, 1)), (21, (21, 2)), (0, (0, 1)), (1, (1, 2))):
            receipts = [("paid", (), (0,), "=", 0), ("paid", ("a", "a"), (0, 0, 1), "=", amount)]
            self.assertEqual(log_span(frame, receipts, ("a",)), ((0, 1), middle))
            for way in ((0, 0), (0, 1)):
                self.assertEqual(way_span(frame, receipts, ("a",), way), ((0, 1), (amount, 1)))
            # aa goes by x x, and by x y.
            self.assertEqual(log_span(frame, receipts, ("a", "a")), ((0, 1), (amount, 1)))

    def test_a_greatest_fare_between(self):
        # first + x + last0 and first + y + last1, where x and y are paid together: 7 for both moves.
        frame = (("a", "b"), (0, NONE), ((((0, 0), (1, 0)), ()), (((1, 0),), ())), (NONE, 0))
        receipts = [("paid", ("a", "a"), (0, 0, 1), "=", 20), ("paid", ("a", "a"), (0, 1, 1), ">=", 0)]
        # aaa goes by x x z, by x z u, and by z u u: with x + z = 20 in all, and u free, the cheapest is at most x + x + z.
        self.assertEqual(log_span(frame, receipts, ("a", "a", "a"))[1], (40, 1))
        more = receipts + [("paid", ("a", "a"), (0, 1, 1), "<=", 10)]
        # Then z + u is 10 at most: z u u is 20 at most, and x + z + u is 20 + u.
        self.assertEqual(log_span(frame, more, ("a", "a", "a"))[1], (20, 1))

    def test_30_ways_and_more(self):
        self.assertEqual(log_span(ONCE, [], ("a",) * 30)[0], (0, 1))
        for many in (31, 400):
            for receipts in ([], [("paid", ("a",), (0, 1), "=", 7), ("paid", ("a",), (0, 1), "=", 8)]):
                with self.assertRaises(TooLarge):
                    log_span(ONCE, receipts, ("a",) * many)
        self.assertEqual(log_span(TWICE, [], ("a",) * 4)[0], (0, 1))
        with self.assertRaises(TooLarge):
            log_span(TWICE, [], ("a",) * 5)
        self.assertEqual(way_span(TWICE, [], ("a",) * 9, (0,) * 10), ((0, 1), (11 * 99, 1)))

    def test_logs_that_cannot_be_gone_and_ways_that_are_none(self):
        for log in ((), ("b",)) if len(FRAME[0]) > 1 else ((),):
            with self.assertRaises(Missing):
                log_span(FRAME, RECEIPTS, log)
        for log in (("b",), ("a",) * 401, ("",)):
            with self.assertRaises(NotAllowed):
                log_span(FRAME, RECEIPTS, log)
            with self.assertRaises(NotAllowed):
                way_span(FRAME, RECEIPTS, log, (0,) * len(log) + (1,))
        for log, way in (((), (0,)), (("a",), (0, 0)), (("a",), ()), (("a",), (0, 5)), (("a", "a"), (0, 1, 1))):
            for receipts in (RECEIPTS, RECEIPTS + [DEAR]):
                with self.assertRaises(NotAllowed):
                    way_span(FRAME, receipts, log, way)
        with self.assertRaises(Missing):
            way_span(FRAME, RECEIPTS + [DEAR], ("a",), (0, 1))
        with self.assertRaises(Missing):
            log_span(FRAME, RECEIPTS + [DEAR], ("a",))


class CertainTest(unittest.TestCase):
    def test_by_spans_and_by_possible_tariffs(self):
        source = random.Random(780)
        seen = {}
        for frame, receipts in told.cases(781, 150, 5, 0.3):
            possible = answer_of(contradiction, frame, receipts) == "Missing"
            for receipt in told.random_receipts(source, frame, 3, 3, 0.5):
                certain, is_so = is_certain(frame, receipts, receipt), is_open(frame, receipts, receipt)
                if not possible:
                    self.assertEqual((certain, is_so), (True, False))
                    seen["nothing"] = seen.get("nothing", 0) + 1
                    continue
                seen[(certain, is_so)] = seen.get((certain, is_so), 0) + 1
                self.assertTrue(is_so or not certain)
                if receipt[0] == "paid":
                    low, high = [Fraction(*ratio) for ratio in way_span(frame, receipts, receipt[1], receipt[2])]
                    amount = receipt[4]
                    expected = {"=": low == high == amount, "<=": high <= amount, ">=": low >= amount}[receipt[3]]
                    self.assertIs(certain, expected)
                    expected = {"=": low <= amount <= high, "<=": low <= amount, ">=": high >= amount}[receipt[3]]
                    self.assertIs(is_so, expected)
                for tariff in tried_tariffs(source, frame, receipts, 4):
                    true = told.is_true(frame, receipt, [Fraction(*ratio) for ratio in tariff])
                    self.assertTrue(true or not certain)
                    self.assertTrue(is_so or not true)
        self.assertGreater(min(seen.values()), 20, seen)
        self.assertEqual(set(seen), {"nothing", (True, True), (False, True), (False, False)})

    def test_each_receipt_of_a_list_is_certain(self):
        for frame, receipts in told.cases(782, 60, 6, 0.2):
            for receipt in receipts:
                self.assertIs(is_certain(frame, receipts, receipt), True)

    def test_one_by_one(self):
        for receipt, certain, is_so in (
            (("paid", ("a",), (0, 1), "=", 7), True, True), (("paid", ("a",), (0, 1), "=", 8), False, False),
            (("paid", ("a", "a"), (0, 0, 1), ">=", 7), True, True), (("paid", ("a", "a"), (0, 0, 1), ">=", 8), False, True),
            (("paid", ("a", "a"), (0, 0, 1), "=", 10), False, True), (DEAR, False, False), (("least", ("a",), (0, 1)), True, True),
        ):
            self.assertEqual((is_certain(FRAME, RECEIPTS, receipt), is_open(FRAME, RECEIPTS, receipt)), (certain, is_so), receipt)
        # A log with two ways: which one is the cheapest is not certain, unless it is told.
        ways = [("least", ("a", "a"), way) for way in ((0, 0, 1), (0, 1, 1))]
        for own, other in (ways, ways[::-1]):
            self.assertEqual((is_certain(ONCE, [], own), is_open(ONCE, [], own)), (False, True))
            self.assertEqual((is_certain(ONCE, [own], own), is_open(ONCE, [own], other)), (True, True))
            self.assertIs(is_certain(ONCE, [own], other), False)
            self.assertIs(is_certain(ONCE, [own, other], ("least", ("a",) * 3, (0, 0, 0, 1))), True)

    def test_seven_and_eight_receipts_with_one_more(self):
        seven = (RECEIPTS * 4)[:7]
        self.assertEqual((is_certain(FRAME, seven, RECEIPTS[0]), is_open(FRAME, seven, RECEIPTS[0])), (True, True))
        for function in (is_certain, is_open):
            with self.assertRaises(TooLarge):
                function(FRAME, seven + RECEIPTS[:1], RECEIPTS[0])
            with self.assertRaises(TooLarge):
                function(FRAME, seven + RECEIPTS[:1], ("least", ("a",), (1, 1)))
            with self.assertRaises(NotAllowed):
                function(FRAME, seven + RECEIPTS[:1], ("least", ("b",), (0, 1)))
            with self.assertRaises(NotAllowed):
                function(FRAME, seven, ("least", ("a",), (1, 1)))

    def test_receipts_are_left_as_they_are(self):
        receipts = list(RECEIPTS)
        is_certain(FRAME, receipts, DEAR)
        is_open(FRAME, receipts, DEAR)
        top_paper(FRAME, receipts, (1, 1, 1, 1))
        self.assertEqual(receipts, RECEIPTS)


class LargeTest(unittest.TestCase):
    def test_large_frames_and_many_rows(self):
        source = random.Random(783)
        seen = {"top": 0, "Missing": 0}
        while min(seen.values()) < 4:
            frame = random_machine(source, 3, 2, 0.75)
            if not 15 <= len(told.unknowns(frame)) <= 20:
                continue
            receipts = told.random_receipts(source, frame, 8, 4, source.choice([0, 0.2]))
            if len(receipts) < 8:
                continue
            numbers = numbers_for(source, frame)
            top = answer_of(top_paper, frame, receipts, numbers)
            if top == "Missing":
                self.assertTrue(told.is_contradiction(frame, receipts, contradiction(frame, receipts)))
            else:
                self.assertTrue(told.is_top_paper(frame, receipts, numbers, top))
            seen["Missing" if top == "Missing" else "top"] += 1
