"""Tests of faremachines.tariffs: unknowns, counts, receipts and their rows, tariffs ([10.1] to [10.3])."""

import random
import unittest
from fractions import Fraction

from faremachines.errors import NotAllowed, TooLarge
from faremachines.tariffs import check_receipts, counts_of, is_tariff, rows_of, unknowns_of
from tests import receipts as told
from tests.samples import HALF_USEFUL, LETTERS, NONE, PLAIN, ROWS, STUCK, random_machine

FRAME = (("a",), (0, NONE), ((((0, 0), (1, 0)),), ((),)), (NONE, 0))
RECEIPTS = [("paid", ("a",), (0, 1), "=", 7), ("paid", ("a", "a"), (0, 0, 1), "<=", 10)]
# A log of n letters has 2 ** n ways.
TWICE = (("a",), (0, NONE), ((((0, 0), (1, 0)),), (((0, 0), (1, 0)),)), (0, 0))
# A log of n letters has n ways.
ONCE = (("a",), (0, NONE), ((((0, 0), (1, 0)),), (((1, 0),),)), (NONE, 0))


def full_frame(unknowns):
    """Return a frame with so many unknowns: two states, and moves by letters."""
    left = unknowns - 4
    moves = [[], []]
    for at in range(4):
        for state in (0, 1):
            many = min(left, 2)
            moves[state].append(tuple([(0, 0), (1, 0)][:many]))
            left -= many
    assert left == 0
    return LETTERS, (0, 0), (tuple(moves[0]), tuple(moves[1])), (0, 0)


class UnknownsTest(unittest.TestCase):
    def test_in_their_order(self):
        self.assertEqual(unknowns_of(FRAME), [("first", 0), ("move", 0, "a", 0), ("move", 0, "a", 1), ("last", 1)])
        self.assertEqual(unknowns_of(HALF_USEFUL), [
            ("first", 0), ("first", 1), ("move", 0, "a", 0), ("move", 0, "a", 1), ("move", 0, "b", 1), ("move", 1, "a", 1),
            ("move", 2, "a", 0), ("move", 2, "a", 1), ("move", 2, "a", 2), ("move", 2, "b", 2), ("last", 0), ("last", 2),
        ])
        self.assertEqual(unknowns_of((("b", "a"), (0,), ((((0, 5),), ((0, 6),)),), (NONE,))),
                         [("first", 0), ("move", 0, "b", 0), ("move", 0, "a", 0)])

    def test_against_the_definition(self):
        source = random.Random(750)
        for _ in range(100):
            frame = told.random_frame(source)
            self.assertEqual(unknowns_of(frame), told.unknowns(frame))

    def test_fares_are_not_looked_at(self):
        bare = (PLAIN[0], (0, 99), ((((0, 1),), ((1, 2),)), (((1, 3),), ((0, 4), (1, 5)))), (NONE, 6))
        self.assertEqual(unknowns_of(bare), unknowns_of(PLAIN))

    def test_just_20_and_21(self):
        for many in (4, 19, 20):
            self.assertEqual(len(unknowns_of(full_frame(many))), many)
        self.assertEqual(unknowns_of((("a",), (NONE,), (((),),), (NONE,))), [])
        frame = told.random_frame(random.Random(1))
        largest = (LETTERS, (0,) * 3, ((((0, 0), (1, 0)),) * 4,) * 3, (NONE,) * 3)
        self.assertEqual(len(told.unknowns(largest)), 27)
        # 20 unknowns are the most: one last fare more is too much.
        edge = full_frame(20)
        more = (LETTERS, (0, 0, NONE), edge[2] + (((),) * 4,), edge[3] + (0,))
        for large in (largest, more):
            for function, arguments in (
                (unknowns_of, ()), (counts_of, ((), (0,))), (check_receipts, ([],)), (rows_of, ([],)), (is_tariff, ([], ())),
                (counts_of, (("x",), (9,))), (check_receipts, ([("least", (), (9,))],)),
            ):
                with self.assertRaises(TooLarge, msg=function):
                    function(large, *arguments)
        self.assertIsNone(check_receipts(frame, []))


class CountsTest(unittest.TestCase):
    def test_against_the_definition(self):
        source = random.Random(751)
        for _ in range(60):
            frame = told.random_frame(source)
            for _ in range(5):
                log = tuple(source.choices(frame[0], k=source.randrange(6)))
                for way in told.ways(frame, log):
                    self.assertEqual(counts_of(frame, log, way), told.counts(frame, log, way))

    def test_long_logs(self):
        self.assertEqual(counts_of(FRAME, ("a", "a"), (0, 0, 1)), (1, 1, 1, 1))
        self.assertEqual(counts_of(FRAME, ("a",) * 400, (0,) * 400 + (1,)), (1, 399, 1, 1))
        for log, way in ((("a",) * 401, (0,) * 401 + (1,)), (("b",), (0, 1)), (("a",), (0, 0)), (("a",), (1, 1)), (("a",), (0,)), ((), ())):
            with self.assertRaises(NotAllowed, msg=log):
                counts_of(FRAME, log, way)

    def test_by_the_machines_own_fares_it_is_the_fare(self):
        source = random.Random(752)
        for _ in range(40):
            frame = told.random_frame(source)
            log = tuple(source.choices(frame[0], k=3))
            for way in told.ways(frame, log):
                fare = told.summed(counts_of(frame, log, way), [Fraction(*ratio) for ratio in told.own_tariff(frame)])
                self.assertEqual(fare, sum([told.fare_of_unknown(frame, unknown) for unknown in told.paid_on(log, way)]))


class ReceiptTest(unittest.TestCase):
    def is_due(self, error, frame, receipts):
        """Check that an error is due for a list of receipts, whichever function is called."""
        many = len(told.unknowns(frame))
        for function, arguments in ((check_receipts, ()), (rows_of, ()), (is_tariff, (((0, 1),) * many,)), (is_tariff, ((),))):
            with self.assertRaises(error, msg=receipts) as caught:
                function(frame, receipts, *arguments)
            self.assertIs(type(caught.exception), error)

    def test_good_ones(self):
        for receipt in (
            ("paid", ("a",), (0, 1), "=", 0), ("paid", ("a",), (0, 1), "<=", 9999), ("paid", ("a",), (0, 1), ">=", 5),
            ("least", ("a",), (0, 1)), ("paid", ("a",) * 12, (0,) * 12 + (1,), "=", 3), ("least", ("a",) * 12, (0,) + (0,) * 11 + (1,)),
        ):
            self.assertIsNone(check_receipts(FRAME, [receipt]))
        self.assertIsNone(check_receipts(FRAME, []))

    def test_each_with_one_part_spoilt(self):
        for receipt in (
            ("pay", ("a",), (0, 1), "=", 7), ("", ("a",), (0, 1), "=", 7), ("least", ("a",), (0, 1), "=", 7),
            ("paid", ("a",), (0, 1)), ("paid", ("a",), (0, 1), "="), ("paid", ("a",), (0, 1), "=", 7, 7), ("Least", ("a",), (0, 1)),
            ("least", ("a",), (0, 1), 7), ("paid", ("a",), (0, 1), "==", 7), ("paid", ("a",), (0, 1), "<", 7),
            ("paid", ("a",), (0, 1), "", 7), ("paid", ("a",), (0, 1), "=<", 7), ("paid", ("a",), (0, 1), "=", -1),
            ("paid", ("a",), (0, 1), "<=", 10000), ("paid", ("a",), (0, 1), ">=", -9999), ("paid", ("b",), (0, 1), "=", 7),
            ("least", ("b",), (0, 1)), ("least", ("a", ""), (0, 0, 1)), ("paid", ("a",) * 13, (0,) * 13 + (1,), "=", 7),
            ("least", ("a",) * 13, (0,) * 13 + (1,)), ("paid", ("a",), (0, 0), "=", 7), ("paid", ("a",), (0, 2), "=", 7),
            ("paid", ("a",), (1, 1), "=", 7), ("paid", ("a",), (0,), "=", 7), ("paid", ("a",), (), "=", 7),
            ("paid", ("a",), (0, 0, 1), "=", 7), ("least", ("a",), (0, 0)), ("least", (), (0,)), ("least", ("a",), (0, -1)),
        ):
            for receipts in ([receipt], RECEIPTS + [receipt], [receipt] + RECEIPTS):
                self.is_due(NotAllowed, FRAME, receipts)

    def test_eight_and_nine(self):
        eight = RECEIPTS * 4
        self.assertIsNone(check_receipts(FRAME, eight))
        self.assertEqual(len(rows_of(FRAME, eight)), 16)
        self.is_due(TooLarge, FRAME, eight + RECEIPTS[:1])

    def test_just_30_ways_and_more(self):
        for many in (1, 5, 12):
            receipt = ("least", ("a",) * many, (0,) * many + (1,))
            self.assertEqual(len(rows_of(ONCE, [receipt])), many - 1 + len(told.unknowns(ONCE)))
        for many, large in ((4, False), (5, True), (12, True)):
            receipt = ("least", ("a",) * many, (0,) * (many + 1))
            if large:
                self.is_due(TooLarge, TWICE, [receipt])
                self.is_due(TooLarge, TWICE, [("paid", ("a",), (0, 0), "=", 7), receipt])
            else:
                self.assertEqual(len(rows_of(TWICE, [receipt])), 15 + len(told.unknowns(TWICE)))
            self.assertIsNone(check_receipts(TWICE, [("paid",) + receipt[1:] + ("=", 7)]))
        # Frames and logs that are looked for, with just so many ways.
        found = {}
        source = random.Random(753)
        while not {29, 30, 31, 32} <= set(found):
            machine = random_machine(source, 3, 2, 0.5)
            log = tuple(source.choices(machine[0], k=source.randrange(3, 9)))
            if len(told.unknowns(machine)) <= 20:
                found[len(told.ways(machine, log))] = (machine, log)
        for many in (29, 30, 31, 32):
            machine, log = found[many]
            receipt = ("least", log, told.ways(machine, log)[-1])
            if many > 30:
                self.is_due(TooLarge, machine, [receipt])
            else:
                self.assertEqual(rows_of(machine, [receipt]), told.rows(machine, [receipt]))

    def test_errors_in_their_order(self):
        large = (LETTERS, (0,) * 3, ((((0, 0), (1, 0)),) * 4,) * 3, (0,) * 3)
        no_receipt, no_way = ("paid", ("a",), (0, 1), "!", 7), ("paid", ("a",), (1, 0), "=", 7)
        many_ways = ("least", ("a",) * 12, (0,) * 13)
        # No receipt, ahead of too many unknowns, receipts or ways, ahead of a way that is none.
        self.is_due(NotAllowed, large, [no_receipt])
        self.is_due(NotAllowed, FRAME, RECEIPTS * 4 + [no_receipt])
        self.is_due(NotAllowed, FRAME, RECEIPTS * 4 + [("paid", ("b",), (0, 1), "=", 7)])
        self.is_due(NotAllowed, FRAME, RECEIPTS * 4 + [("least", ("a",) * 13, (0,) * 13 + (1,))])
        self.is_due(NotAllowed, TWICE, [many_ways, no_receipt])
        self.is_due(TooLarge, large, [("paid", ("a",), (9, 9), "=", 7)])
        self.is_due(TooLarge, FRAME, RECEIPTS * 4 + [no_way])
        self.is_due(TooLarge, TWICE, [("paid", ("a",), (0, 5), "=", 7), many_ways])
        self.is_due(TooLarge, TWICE, [("least", ("a",) * 5, (0,))])
        self.is_due(NotAllowed, FRAME, RECEIPTS + [no_way])
        self.is_due(NotAllowed, STUCK, [("least", ("a",), (0, 0))])


class RowsTest(unittest.TestCase):
    def test_the_example(self):
        self.assertEqual(rows_of(FRAME, RECEIPTS), [
            ((1, 0, 1, 1), 7), ((-1, 0, -1, -1), -7), ((1, 1, 1, 1), 10), ((1, 0, 0, 0), 99), ((0, 1, 0, 0), 99),
            ((0, 0, 1, 0), 99), ((0, 0, 0, 1), 99),
        ])

    def test_one_kind_after_the_other(self):
        least, paid = ("least", ("a", "a"), (0, 0, 1)), ("paid", ("a",), (0, 1), ">=", 4)
        units = rows_of(ROWS, [])
        self.assertEqual(rows_of(ROWS, [paid]), [((-1, 0, -1, 0, -1), -4)] + units)
        self.assertEqual(rows_of(ROWS, [least]), [((0, 1, 0, -1, 0), 0)] + units)
        self.assertEqual(rows_of(ROWS, [least, paid, least])[:3], [((0, 1, 0, -1, 0), 0), ((-1, 0, -1, 0, -1), -4), ((0, 1, 0, -1, 0), 0)])

    def test_against_the_definition(self):
        for frame, receipts in told.cases(754, 120, 6):
            self.assertEqual(rows_of(frame, receipts), told.rows(frame, receipts))

    def test_without_unknowns(self):
        self.assertEqual(rows_of((("a",), (NONE,), (((),),), (NONE,)), []), [])
        self.assertIs(is_tariff((("a",), (NONE,), (((),),), (NONE,)), [], ()), True)


class TariffTest(unittest.TestCase):
    def test_the_example(self):
        right = ((2, 1), (5, 2), (5, 1), (0, 1))
        self.assertIs(is_tariff(FRAME, RECEIPTS, right), True)
        for at, ratio in (
            (0, (4, 2)), (0, (3, 1)), (0, (1, 1)), (1, (7, 2)), (1, (10, 4)), (1, (-5, -2)), (2, (5, 0)), (3, (0, 2)), (3, (0, 0)),
            (3, (-1, 1)), (0, (200, 1)), (1, (100, 1)), (0, (2, -1)),
        ):
            self.assertIs(is_tariff(FRAME, RECEIPTS, right[:at] + (ratio,) + right[at + 1:]), False, ratio)
        for tariff in ((), right[:3], right + ((0, 1),), right[::-1]):
            self.assertIs(is_tariff(FRAME, RECEIPTS, tariff), False)
        self.assertIs(is_tariff(FRAME, RECEIPTS, ((2, 1), (3, 1), (5, 1), (0, 1))), True)
        self.assertIs(is_tariff(FRAME, RECEIPTS, ((2, 1), (3001, 1000), (5, 1), (0, 1))), False)

    def test_ratios_from_0_to_99(self):
        for ratio, right in (((99, 1), True), ((0, 1), True), ((9901, 100), False), ((9899, 100), True), ((-1, 100), False), ((100, 1), False)):
            self.assertIs(is_tariff(FRAME, [], ((1, 1), (1, 2), ratio, (3, 1))), right)

    def test_receipts_that_are_true_by_the_machine_itself(self):
        judged = {True: 0, False: 0}
        source = random.Random(755)
        for frame, receipts in told.cases(756, 150):
            own = told.own_tariff(frame)
            for _ in range(6):
                ratios = [own[at] if source.random() < 0.6 else (source.randrange(20), source.randrange(1, 4)) for at in range(len(own))]
                for tariff in (own, tuple(ratios)):
                    right = told.is_possible(frame, receipts, tariff)
                    self.assertIs(is_tariff(frame, receipts, tariff), right, (frame, receipts, tariff))
                    judged[right] += 1
        self.assertGreater(min(judged.values()), 200, judged)
        for frame, receipts in told.cases(757, 60, 6, 0):
            self.assertIs(is_tariff(frame, receipts, told.own_tariff(frame)), True)

    def test_receipts_are_left_as_they_are(self):
        receipts = list(RECEIPTS)
        rows = rows_of(FRAME, receipts)
        rows.clear()
        unknowns_of(FRAME).clear()
        is_tariff(FRAME, receipts, ())
        self.assertEqual(receipts, RECEIPTS)
        self.assertEqual(len(rows_of(FRAME, receipts)), 7)
