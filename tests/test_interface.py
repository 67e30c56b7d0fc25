"""Tests of the interface: where its names stand, and that arguments are left as they are ([1.1])."""

import importlib
import inspect
import unittest

from faremachines import counts, machines, rounds, texts, words
from tests.samples import COUNTER, PLAIN, SINGLE, SWAPPING

NAMES = {
    "errors": "FareError NotAllowed TooLarge Missing BadPaper BadForm Broken",
    "words": "MAX_WORD MAX_LETTERS MAX_LOG RESERVED is_word check_letters check_log log_text read_log",
    "machines": "MAX_STATES MAX_FARE NONE check_machine fares_behind fares_from fare_of best_way count_ways fare_by"
                " either both turned",
    "texts": "MAX_TEXT machine_text read_machine",
    "rounds": "useful rounds is_alike is_drift",
    "counts": "MAX_WAYS_ASKED MAX_TABLE at_most is_table",
}

DRIFT = ((), ("a",), ((0,), (1,), (0, 0), (1, 1)))
ALIKE = ((0, 0, 0, 0), (0, 1, 0, 7), (1, 0, 0, 7), (1, 1, 0, 0))
TEXT = "letters a b\nstate 0 none\nstate 2 4\nmove 0 a 0 3\nmove 0 b 1 1\nmove 1 a 1 1\nmove 1 b 0 0\nmove 1 b 1 5\n"

# Calls, and what they return.
CALLS = (
    (words.is_word, ("abc",), True),
    (words.check_letters, (("a", "b"),), None),
    (words.check_log, (("a", "b"), ("b", "a")), None),
    (words.log_text, (("b", "a"),), "b a"),
    (words.read_log, (("a", "b"), " b  a"), ("b", "a")),
    (machines.check_machine, (PLAIN,), None),
    (machines.fares_behind, (PLAIN, ("a", "b", "a")), (6, 5)),
    (machines.fares_from, (PLAIN, ("a", "b", "a")), (9, 11)),
    (machines.fare_of, (PLAIN, ("a", "b", "a")), 9),
    (machines.best_way, (PLAIN, ("a", "b", "a")), (0, 0, 1, 1)),
    (machines.count_ways, (PLAIN, ("a", "b", "a")), 2),
    (machines.fare_by, (PLAIN, ("a", "b", "a"), (1, 1, 1, 1)), 13),
    (machines.either, (SINGLE, SINGLE), (("a",), (0, 0), ((((0, 1),),), (((1, 1),),)), (0, 0))),
    (machines.both, (SINGLE, SINGLE), (("a",), (0,), ((((0, 2),),),), (0,))),
    (machines.turned, (SINGLE,), SINGLE),
    (texts.machine_text, (PLAIN,), TEXT),
    (texts.read_machine, (TEXT,), PLAIN),
    (rounds.useful, (PLAIN,), [0, 1]),
    (rounds.rounds, (SINGLE,), ("alike", ((0, 0, 1, 0),))),
    (rounds.is_alike, (SWAPPING, ALIKE), True),
    (rounds.is_drift, (COUNTER, DRIFT), True),
    (counts.at_most, (SINGLE, 1), (True, ((1,),))),
    (counts.is_table, (SINGLE, 1, ((0,), (1,))), True),
)


class InterfaceTest(unittest.TestCase):
    def test_names_stand_in_their_files(self):
        for name, listed in NAMES.items():
            module = importlib.import_module(f"faremachines.{name}")
            for word in listed.split():
                found = getattr(module, word)
                if not word.isupper():
                    self.assertTrue(inspect.isclass(found) or inspect.isfunction(found), word)
                    self.assertEqual(found.__module__, module.__name__, word)

    def test_calls_leave_their_arguments_and_return_the_same_again(self):
        for function, arguments, answer in CALLS:
            before = repr(arguments)
            for _ in range(2):
                returned = function(*arguments)
                self.assertEqual(repr(returned), repr(answer), function)
                self.assertEqual(repr(arguments), before, function)
                if isinstance(returned, list):
                    returned.clear()

    def test_each_function_of_the_interface_is_called(self):
        called = {function.__name__ for function, _, _ in CALLS}
        listed = {word for name, words_of in NAMES.items() if name != "errors" for word in words_of.split()}
        self.assertEqual(called, {word for word in listed if not word.isupper()})
