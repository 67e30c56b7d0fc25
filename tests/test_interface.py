"""Tests of the interface: where its names stand, and that arguments are left as they are ([1.1])."""

import importlib
import inspect
import unittest

from faremachines import budgets, bystate, cells, charts, cheapest, clashes, closer, closings, comparing, counts, dearer
from faremachines import desk, edited, fewest, forced, games, greatest, growing, limits, machines, made, means, office
from faremachines import regretgame, rises, rounds, singles, slices, spans, standing, tariffs, texts, unions, walkers
from faremachines import waygrowth, words
from tests.samples import COUNTER, FORK, FORK_WALKER, NONE, PLAIN, ROWS, SINGLE, STUCK, SWAPPING

NAMES = {
    "errors": "FareError NotAllowed TooLarge Missing BadPaper BadForm Broken",
    "words": "MAX_WORD MAX_LETTERS MAX_LOG RESERVED is_word check_letters check_log log_text read_log",
    "machines": "MAX_STATES MAX_FARE NONE check_machine fares_behind fares_from fare_of best_way count_ways fare_by"
                " either both turned",
    "texts": "MAX_TEXT machine_text read_machine",
    "rounds": "useful rounds is_alike is_drift",
    "counts": "MAX_WAYS_ASKED MAX_TABLE at_most is_table",
    "waygrowth": "growth_of_ways growth_paper level_paper is_growth_paper is_level_paper",
    "charts": "chart_of product fare_by_chart",
    "edited": "Edited",
    "cheapest": "MAX_WAYS cheapest_ways paper_of judge",
    "slices": "cheapest_slice best_edit fares_together",
    "walkers": "MAX_SPOTS alive_states check_walker walker_way walker_fare regret upper_paper lower_paper judge_upper"
               " judge_lower",
    "bystate": "MAX_CHOICES state_walker best_by_state",
    "regretgame": "MAX_CAP MAX_REGRET MAX_POSITIONS first_positions next_position walker_paper judge_walker"
                  " least_regret walker_of",
    "forced": "MAX_TURNS forced forced_paper judge_forced",
    "singles": "MAX_SINGLE MAX_COST check_single single_fare least_single",
    "made": "made as_machine",
    "dearer": "MAX_PAIRS MAX_TIMES same_fares is_same never_dearer is_never is_dearer",
    "unions": "MAX_UNION MAX_OWN check_union union_fare cheapest_members",
    "cells": "MAX_BOX first_place place_behind judge_cells",
    "comparing": "MAX_PART MAX_PLACES MAX_LETTERS_TRIED made_cells dearer_log never_dearer_union least_part",
    "limits": "MAX_TABLES letter_table combined repeated value_of is_limited closed_paper judge_closed",
    "growing": "MAX_NESTED check_expression table_of log_of growing_paper judge_growing",
    "greatest": "MAX_ROWS first_log row_paper judge_rows greatest_fare",
    "means": "least_mean greatest_mean mean_paper is_mean_paper mean_of",
    "games": "worths walker_paper caller_paper is_walker_paper is_caller_paper",
    "budgets": "MAX_CREDIT needs broke_paper is_broke_paper",
    "office": "MAX_KEPT MAX_NUMBER MAX_BOUND MAX_IMAGE Office load_office",
    "desk": "MAX_SCRIPT MAX_LINES run_script",
    "tariffs": "MAX_UNKNOWNS MAX_RIDE MAX_AMOUNT MAX_RECEIPTS MAX_OTHERS unknowns_of counts_of check_receipts rows_of"
               " is_tariff",
    "spans": "top_paper is_top_paper contradiction is_contradiction way_span log_span is_certain is_open",
    "clashes": "first_clash clashes fitting error_paper is_error_paper",
    "closings": "moves_of closed_machine vital_moves",
    "fewest": "MAX_CLOSINGS MAX_TREE fewest_closings holds ways_paper judge_ways",
    "standing": "MAX_STOOD MAX_CLOSED_SETS first_unlimited standing_paper judge_standing",
    "closer": "MAX_RESERVE forced_fare fares_by_reserve true_numbers judge_above judge_below",
    "rises": "MAX_RISE fares_by_uses risen_fare corners",
}
METHODS = {
    edited.Edited: "log fare length edit slice_fare fares_behind fares_from fare_with copy",
    office.Office: "machines log fares changes add drop set_bound set_first set_last set_move edit undo copy image",
}
CONSTANTS = (
    (words.MAX_WORD, 8), (words.MAX_LETTERS, 4), (words.MAX_LOG, 400),
    (words.RESERVED, ("letters", "state", "move", "none")),
    (machines.MAX_STATES, 8), (machines.MAX_FARE, 99), (machines.NONE, -1), (texts.MAX_TEXT, 8000),
    (counts.MAX_WAYS_ASKED, 5), (counts.MAX_TABLE, 1000), (cheapest.MAX_WAYS, 20), (walkers.MAX_SPOTS, 16),
    (bystate.MAX_CHOICES, 3000), (regretgame.MAX_CAP, 60), (regretgame.MAX_REGRET, 60),
    (regretgame.MAX_POSITIONS, 3000), (forced.MAX_TURNS, 8), (singles.MAX_SINGLE, 60), (singles.MAX_COST, 1000000),
    (dearer.MAX_PAIRS, 400), (dearer.MAX_TIMES, 10 ** 10), (unions.MAX_UNION, 3), (unions.MAX_OWN, 6),
    (cells.MAX_BOX, 500), (comparing.MAX_PART, 2), (comparing.MAX_PLACES, 400), (comparing.MAX_LETTERS_TRIED, 7),
    (limits.MAX_TABLES, 300), (growing.MAX_NESTED, 30), (greatest.MAX_ROWS, 2000), (budgets.MAX_CREDIT, 2000),
    (office.MAX_KEPT, 6), (office.MAX_NUMBER, 999999), (office.MAX_BOUND, 99999), (office.MAX_IMAGE, 40000),
    (desk.MAX_SCRIPT, 4000), (desk.MAX_LINES, 100), (tariffs.MAX_UNKNOWNS, 20), (tariffs.MAX_RIDE, 12),
    (tariffs.MAX_AMOUNT, 9999), (tariffs.MAX_RECEIPTS, 8), (tariffs.MAX_OTHERS, 30), (fewest.MAX_CLOSINGS, 4),
    (fewest.MAX_TREE, 3000), (standing.MAX_STOOD, 2), (standing.MAX_CLOSED_SETS, 100), (closer.MAX_RESERVE, 5),
    (rises.MAX_RISE, 1000000),
)

DRIFT = ((), ("a",), ((0,), (1,), (0, 0), (1, 1)))
ALIKE = ((0, 0, 0, 0), (0, 1, 0, 7), (1, 0, 0, 7), (1, 1, 0, 0))
TEXT = "letters a b\nstate 0 none\nstate 2 4\nmove 0 a 0 3\nmove 0 b 1 1\nmove 1 a 1 1\nmove 1 b 0 0\nmove 1 b 1 5\n"

LOG = ("a", "b", "a")
DOUBLING = ("doubling", 1, ("b", "b"), (1, 0, 1), (1, 1, 1))
WAYS = [(9, (0, 0, 1, 1)), (13, (1, 1, 1, 1))]
BOUNDS = ((9, 11), (6, 10), (NONE, 5), (NONE, 4))
UPPER = ((0, 0, 0), (1, 1, 0), (1, 2, 0), (2, 3, 2))
CHOICE = ((2, 0), (3, 3), (3, 3), (3, 3))
ANSWERS = (((0, ((0, 0),)), (2, 0)), ((2, ((1, 0), (2, 0))), (3, 3)), ((3, ((3, 2),)), (3, 3)))
OTHER = (
    (0, ((0, 0),), 2, "a"), (1, ((1, 0), (2, 0)), 1, "b"), (2, ((1, 0), (2, 0)), 1, "a"), (3, ((3, 2),), 0, ""),
    (3, ((3, 3),), 0, ""),
)
LONE = (("a",), 1, (((1, 0),), ((2, 5),), ((1, 5),)), (-1, 2, 2))
LEAST = (("a",), 3, (((1, 0),), ((1, 5),)), (-1, 0))
ONE, TWO = (("a",), 5, (((0, 1),),), (0,)), (("a",), 0, (((0, 2),),), (0,))
UNION = ((("a", "b"), 0, (((0, 1), (0, 0)),), (0,)), (("a", "b"), 0, (((0, 0), (0, 1)),), (0,)))
HALF = (("a", "b"), 0, (((1, 0), (1, 0)), ((0, 1), (0, 1))), (0, 0))
CELLS = (((0, (0, 0)), (((1, 1), 0), ((2, 2), 0)), ()), ((1, (0, 0)), (((1, 1), 1), ((2, 2), 2)), ()))
ALONE = (("a",), (0,), ((((0, 0),),),), (5,))
TURNS = ("turns", ("row", ("b", "a")))
GAME = (("a", "b"), (0, -1), ((((0, 3), (1, 0)), ((0, 2),)), (((0, 5),), ((1, 1),))), (0, 0))
FRAME = (("a",), (0, NONE), ((((0, 0), (1, 0)),), ((),)), (NONE, 0))
RECEIPTS = [("paid", ("a",), (0, 1), "=", 7), ("paid", ("a", "a"), (0, 0, 1), "<=", 10)]
UNITS = [((1, 0, 0, 0), 99), ((0, 1, 0, 0), 99), ((0, 0, 1, 0), 99), ((0, 0, 0, 1), 99)]
TARIFF = ((2, 1), (5, 2), (5, 1), (0, 1))
DEAR = ("paid", ("a", "a"), (0, 0, 1), ">=", 11)
TOP = ((3, 1), ((7, 1), (3, 1), (0, 1), (0, 1)), ((0, 1), (1, 1), (1, 1), (0, 1), (0, 1), (0, 1), (0, 1)))
AGAINST = ((0, 1), (0, 1), (1, 1), (1, 1), (0, 1), (0, 1), (0, 1), (0, 1))
AMISS = ((1, 1), ((7, 1), (4, 1), (0, 1), (0, 1)), ((0, 1), (0, 1), (1, 1), (0, 1)), AGAINST)
PARTED = (
    ("a",), (0, NONE, NONE, NONE), ((((1, 0), (2, 1)),), (((3, 0),),), (((3, 3),),), ((),)), (NONE, NONE, NONE, 0),
)
TWIN = (("a",), (0, NONE), ((((0, 1), (1, 0)),), (((1, 0),),)), (0, 0))
TREE = ("tree", (0, 1, 3), (("tree", (0, 2, 3), ()), ("tree", (0, 2, 3), ())))
STOOD = (((), (((1, 0), (3, 0)), ((2, 0), (3, 0)))),)
LAYERS = (((NONE, 0, 3, NONE),), ((NONE, NONE, NONE, 0),))

# Calls, and what they return.
CALLS = (
    (words.is_word, ("abc",), True),
    (words.check_letters, (("a", "b"),), None),
    (words.check_log, (("a", "b"), ("b", "a")), None),
    (words.log_text, (("b", "a"),), "b a"),
    (words.read_log, (("a", "b"), " b  a"), ("b", "a")),
    (machines.check_machine, (PLAIN,), None),
    (machines.fares_behind, (PLAIN, ("a", "b", "a")), (6, 5)),
    (machines.fares_from, (PLAIN, ("a", "b", "a")), (9, 11)),
    (machines.fare_of, (PLAIN, ("a", "b", "a")), 9),
    (machines.best_way, (PLAIN, ("a", "b", "a")), (0, 0, 1, 1)),
    (machines.count_ways, (PLAIN, ("a", "b", "a")), 2),
    (machines.fare_by, (PLAIN, ("a", "b", "a"), (1, 1, 1, 1)), 13),
    (machines.either, (SINGLE, SINGLE), (("a",), (0, 0), ((((0, 1),),), (((1, 1),),)), (0, 0))),
    (machines.both, (SINGLE, SINGLE), (("a",), (0,), ((((0, 2),),),), (0,))),
    (machines.turned, (SINGLE,), SINGLE),
    (texts.machine_text, (PLAIN,), TEXT),
    (texts.read_machine, (TEXT,), PLAIN),
    (rounds.useful, (PLAIN,), [0, 1]),
    (rounds.rounds, (SINGLE,), ("alike", ((0, 0, 1, 0),))),
    (rounds.is_alike, (SWAPPING, ALIKE), True),
    (rounds.is_drift, (COUNTER, DRIFT), True),
    (counts.at_most, (SINGLE, 1), (True, ((1,),))),
    (counts.is_table, (SINGLE, 1, ((0,), (1,))), True),
    (waygrowth.growth_of_ways, (PLAIN,), ("doubling",)),
    (waygrowth.growth_paper, (ROWS,), ("power", ((0, 1, ("a",), ()),))),
    (waygrowth.level_paper, (ROWS,), (1, 0)),
    (waygrowth.is_growth_paper, (PLAIN, DOUBLING), True),
    (waygrowth.is_level_paper, (ROWS, (1, 0)), True),
    (charts.chart_of, (PLAIN, LOG), ((NONE, 5), (4, 7))),
    (charts.product, (((3, -1), (-1, 1)), ((-1, 2), (3, 6))), ((NONE, 5), (4, 7))),
    (charts.fare_by_chart, (PLAIN, ((NONE, 5), (4, 7))), 9),
    (cheapest.cheapest_ways, (PLAIN, LOG, 3), WAYS),
    (cheapest.paper_of, (PLAIN, LOG), BOUNDS),
    (cheapest.judge, (PLAIN, LOG, 3, WAYS, BOUNDS), True),
    (slices.cheapest_slice, (PLAIN, LOG, 1), (5, (1, 2))),
    (slices.best_edit, (PLAIN, LOG), (6, ("cut", 0))),
    (slices.fares_together, ([SINGLE, STUCK], ("a",)), [1, NONE]),
    (walkers.alive_states, (FORK,), [0, 1, 2, 3]),
    (walkers.check_walker, (FORK, FORK_WALKER), None),
    (walkers.walker_way, (FORK, FORK_WALKER, ("b", "a", "a")), (0, 0, 2, 3)),
    (walkers.walker_fare, (FORK, FORK_WALKER, ("b", "a", "a")), 3),
    (walkers.regret, (FORK, FORK_WALKER), 2),
    (walkers.upper_paper, (FORK, FORK_WALKER, 2), UPPER),
    (walkers.lower_paper, (FORK, FORK_WALKER, 1), ("log", ("a", "a"))),
    (walkers.judge_upper, (FORK, FORK_WALKER, 2, UPPER), True),
    (walkers.judge_lower, (FORK, FORK_WALKER, 1, ("log", ("a", "a"))), True),
    (bystate.state_walker, (FORK, 0, CHOICE), FORK_WALKER),
    (bystate.best_by_state, (FORK,), (2, 0, CHOICE)),
    (regretgame.first_positions, (FORK,), [(0, ((0, 0),))]),
    (regretgame.next_position, (FORK, (0, ((0, 0),)), "a", 2), (2, ((1, 0), (2, 0)))),
    (regretgame.walker_paper, (FORK, 2, 5), ANSWERS),
    (regretgame.judge_walker, (FORK, 2, ANSWERS), True),
    (regretgame.least_regret, (FORK, 5), 2),
    (regretgame.walker_of, (FORK, 2, ANSWERS), FORK_WALKER),
    (forced.forced, (FORK, 2), 2),
    (forced.forced_paper, (FORK, 1, 2), OTHER),
    (forced.judge_forced, (FORK, 1, OTHER), True),
    (singles.check_single, (LONE,), None),
    (singles.single_fare, (LONE, ("a", "a")), 8),
    (singles.least_single, (LONE,), LEAST),
    (made.made, (SWAPPING,), (("a",), 0, (((0, 2),),), (0,))),
    (made.as_machine, (LEAST,), (("a",), (3, NONE), ((((1, 0),),), (((1, 5),),)), (NONE, 0))),
    (dearer.same_fares, (LONE, LEAST), ("same", ((0, 0, -2), (1, 1, -2), (2, 1, -2)))),
    (dearer.is_same, (LONE, LEAST, ((0, 0, -2), (1, 1, -2), (2, 1, -2))), True),
    (dearer.never_dearer, (TWO, ONE), ("dearer", ((), ("a",), 6, ()))),
    (dearer.is_never, (ONE, ONE, ((0, 0, 0),)), True),
    (dearer.is_dearer, (TWO, ONE, ((), ("a",), 6, ())), True),
    (unions.check_union, (UNION,), None),
    (unions.union_fare, (UNION, ("a", "a", "b")), 1),
    (unions.cheapest_members, (UNION, ("a", "b")), (0, 1)),
    (cells.first_place, (UNION, HALF), ((0, (0, 0)), (0, 0))),
    (cells.place_behind, (UNION, HALF, (1, (0, 0)), "a"), ((0, (0, 0)), (0, -1))),
    (cells.judge_cells, (UNION, HALF, CELLS), True),
    (comparing.made_cells, (UNION, HALF), CELLS),
    (comparing.dearer_log, ((HALF,), UNION, 7), ("a", "a")),
    (comparing.never_dearer_union, (UNION, (HALF,)), True),
    (comparing.least_part, ((UNION[0], HALF, UNION[1]),), (0, 2)),
    (limits.letter_table, (COUNTER, "a"), ((1, 3), (3, 0))),
    (limits.combined, (((1, 3), (3, 0)), ((0, 3), (3, 1))), ((1, 3), (3, 1))),
    (limits.repeated, (((1, 3), (3, 0)),), ((2, 3), (3, 0))),
    (limits.value_of, (COUNTER, ((2, 3), (3, 2))), 2),
    (limits.is_limited, (COUNTER,), False),
    (limits.closed_paper, (ALONE,), (((0,),),)),
    (limits.judge_closed, (ALONE, (((0,),),)), True),
    (growing.check_expression, (COUNTER, TURNS), None),
    (growing.table_of, (COUNTER, TURNS), ((2, 3), (3, 2))),
    (growing.log_of, (TURNS, 2), ("b", "a", "b", "a")),
    (growing.growing_paper, (COUNTER,), TURNS),
    (growing.judge_growing, (COUNTER, TURNS), True),
    (greatest.first_log, (COUNTER, 2), ("a", "a", "b", "b")),
    (greatest.row_paper, (ALONE, 6), ((0,),)),
    (greatest.judge_rows, (ALONE, 6, ((0,),)), True),
    (greatest.greatest_fare, (ALONE,), 5),
    (means.least_mean, (PLAIN,), (1, 2)),
    (means.greatest_mean, (PLAIN,), (5, 1)),
    (means.mean_paper, (PLAIN, True), ((5, 1), (), ("b",), ((1,), (1, 1)), (0, 0))),
    (means.is_mean_paper, (PLAIN, True, ((5, 1), (), ("b",), ((1,), (1, 1)), (0, 0))), True),
    (means.mean_of, (PLAIN, ("b",), ("a", "b")), (5, 4)),
    (games.worths, (GAME,), ((5, 2), (5, 2))),
    (games.walker_paper, (GAME, (5, 2)), (0, 5)),
    (games.caller_paper, (GAME, (3, 1)), (NONE, NONE)),
    (games.is_walker_paper, (GAME, (5, 2), (0, 5)), True),
    (games.is_caller_paper, (GAME, (3, 1), (0, 5)), False),
    (budgets.needs, (GAME, 3), (0, 2)),
    (budgets.broke_paper, (GAME, 3, 1, 1), ((1, 1, 1, "a"),)),
    (budgets.is_broke_paper, (GAME, 3, ((1, 1, 1, "a"),)), True),
    (desk.run_script, ("letters a\nnew 1\nlog\nfares",), ["ok", "1", "-", "1=none"]),
    (tariffs.unknowns_of, (FRAME,), [("first", 0), ("move", 0, "a", 0), ("move", 0, "a", 1), ("last", 1)]),
    (tariffs.counts_of, (FRAME, ("a", "a"), (0, 0, 1)), (1, 1, 1, 1)),
    (tariffs.check_receipts, (FRAME, RECEIPTS), None),
    (tariffs.rows_of, (FRAME, RECEIPTS), [((1, 0, 1, 1), 7), ((-1, 0, -1, -1), -7), ((1, 1, 1, 1), 10)] + UNITS),
    (tariffs.is_tariff, (FRAME, RECEIPTS, TARIFF), True),
    (spans.top_paper, (FRAME, RECEIPTS, (0, 1, 0, 0)), TOP),
    (spans.is_top_paper, (FRAME, RECEIPTS, (0, 1, 0, 0), TOP), True),
    (spans.contradiction, (FRAME, [RECEIPTS[1], DEAR]), AGAINST[2:]),
    (spans.is_contradiction, (FRAME, RECEIPTS + [DEAR], AGAINST), True),
    (spans.way_span, (FRAME, RECEIPTS, ("a", "a"), (0, 0, 1)), ((7, 1), (10, 1))),
    (spans.log_span, (FRAME, RECEIPTS, ("a", "a", "a")), ((7, 1), (13, 1))),
    (spans.is_certain, (FRAME, RECEIPTS, DEAR), False),
    (spans.is_open, (FRAME, RECEIPTS, DEAR), False),
    (clashes.first_clash, (FRAME, RECEIPTS + [DEAR]), 3),
    (clashes.clashes, (FRAME, RECEIPTS + [DEAR]), [(1, 2)]),
    (clashes.fitting, (FRAME, RECEIPTS + [DEAR]), [(0, 1), (0, 2)]),
    (clashes.error_paper, (FRAME, RECEIPTS + [DEAR]), AMISS),
    (clashes.is_error_paper, (FRAME, RECEIPTS + [DEAR], AMISS), True),
    (closings.moves_of, (PARTED,), [(0, "a", 1), (0, "a", 2), (1, "a", 3), (2, "a", 3)]),
    (closings.closed_machine, (TWIN, ((0, "a", 0),)), TWIN[:2] + (((((1, 0),),), (((1, 0),),)),) + TWIN[3:]),
    (closings.vital_moves, (PARTED, ("a", "a")), [((0, "a", 1), 4), ((1, "a", 3), 4)]),
    (fewest.fewest_closings, (PARTED, ("a", "a"), 4), ((0, "a", 1), (0, "a", 2))),
    (fewest.holds, (PARTED, ("a", "a"), 2, ((0, "a", 1),)), True),
    (fewest.ways_paper, (PARTED, ("a", "a"), 4, 1), TREE),
    (fewest.judge_ways, (PARTED, ("a", "a"), 4, 1, TREE), True),
    (standing.first_unlimited, (TWIN, 1), ((0, "a", 1),)),
    (standing.standing_paper, (TWIN, 0), STOOD),
    (standing.judge_standing, (TWIN, 0, STOOD), True),
    (closer.forced_fare, (PARTED, ("a", "a"), 1), NONE),
    (closer.fares_by_reserve, (PARTED, ("a", "a"), 2), [0, NONE, NONE]),
    (closer.true_numbers, (PARTED, ("a",), 0), LAYERS),
    (closer.judge_above, (PARTED, ("a",), 0, 5, LAYERS), False),
    (closer.judge_below, (PARTED, ("a",), 0, NONE, LAYERS), True),
    (rises.fares_by_uses, (PARTED, ("a", "a"), (0, "a", 1)), [4, 0, NONE]),
    (rises.risen_fare, (PARTED, ("a", "a"), (0, "a", 1), 3), 3),
    (rises.corners, (PARTED, ("a", "a"), (0, "a", 1)), [(0, 1), (4, 0)]),
)


class InterfaceTest(unittest.TestCase):
    def test_names_stand_in_their_files(self):
        for name, listed in NAMES.items():
            module = importlib.import_module(f"faremachines.{name}")
            for word in listed.split():
                found = getattr(module, word)
                if not word.isupper():
                    self.assertTrue(inspect.isclass(found) or inspect.isfunction(found), word)
                    self.assertEqual(found.__module__, module.__name__, word)

    def test_calls_leave_their_arguments_and_return_the_same_again(self):
        for function, arguments, answer in CALLS:
            before = repr(arguments)
            for _ in range(2):
                returned = function(*arguments)
                self.assertEqual(repr(returned), repr(answer), function)
                self.assertEqual(repr(arguments), before, function)
                if isinstance(returned, list):
                    returned.clear()

    def test_each_function_of_the_interface_is_called(self):
        called = {function.__name__ for function, _, _ in CALLS}
        listed = {word for name, words_of in NAMES.items() if name != "errors" for word in words_of.split()}
        classes = {found.__name__ for found in METHODS}
        # What a loaded office is has its own tests.
        self.assertEqual(called | classes | {"load_office"}, {word for word in listed if not word.isupper()})

    def test_methods_stand_in_their_classes(self):
        for found, listed in METHODS.items():
            for word in listed.split():
                self.assertTrue(inspect.isfunction(vars(found)[word]), word)

    def test_constants(self):
        for found, known in CONSTANTS:
            self.assertEqual((type(found), found), (type(known), known))
        listed = [word for words_of in NAMES.values() for word in words_of.split() if word.isupper()]
        self.assertEqual(len(listed), len(CONSTANTS))
