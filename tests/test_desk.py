"""Tests of faremachines.desk: scripts, their lines, and the answers ([9.4], [9.5])."""

import random
import unittest

from faremachines.bystate import best_by_state
from faremachines.cheapest import cheapest_ways
from faremachines.dearer import never_dearer
from faremachines.desk import MAX_LINES, MAX_SCRIPT, run_script
from faremachines.errors import Broken, FareError, NotAllowed
from faremachines.forced import forced
from faremachines.greatest import greatest_fare
from faremachines.limits import is_limited
from faremachines.machines import best_way, fare_of
from faremachines.made import made
from faremachines.office import Office
from faremachines.regretgame import least_regret
from faremachines.rounds import rounds
from faremachines.slices import best_edit, cheapest_slice
from tests.samples import COUNTER, FORK, HALF_USEFUL, NONE, PLAIN, random_machines

START = ["letters a b", "new 2", "first 1 0 0", "last 1 1 3", "move 1 0 a 1 2", "move 1 1 b 1 4", "put 0 a"]
NAMES = {"NotAllowed": "refused", "Missing": "missing", "TooLarge": "large"}


def answers(*lines):
    """Return the answers to some lines."""
    return run_script("\n".join(lines))


def after_start(*lines):
    """Return the answers to some lines behind those of the start."""
    found = answers(*START, *lines)
    assert found[:len(START)] == ["ok", "1", "ok", "ok", "ok", "ok", "ok"]
    return found[len(START):]


def number(told):
    """Return the text of a number, or of NONE or None."""
    return "none" if told in (NONE, None) else str(told)


def lines_of(machine, name):
    """Return the lines that make a machine with a number."""
    lines = [f"new {len(machine[1])}"]
    for state, (first, last) in enumerate(zip(machine[1], machine[3])):
        lines += [f"first {name} {state} {number(first)}", f"last {name} {state} {number(last)}"]
        for letter, row in zip(machine[0], machine[2][state]):
            lines += [f"move {name} {state} {letter} {after} {fare}" for after, fare in row]
    return lines


def expected(function):
    """Return what a call returns, or what the desk answers for its error."""
    try:
        return function()
    except Broken as error:
        return f"broken {error.number} {number(error.fare)}"
    except FareError as error:
        return NAMES[type(error).__name__]


class ScriptTest(unittest.TestCase):
    def test_the_example(self):
        script = (
            "fares\nletters a b\nnew 2\nfirst 1 0 0\nlast 1 1 3\nmove 1 0 a 1 2\nfares\nput 0 a\nfares\nbound 1 5\nput 0 b\n"
            "rounds 1\nsingle 1\ngreatest 1\nstate 1\nodd"
        )
        self.assertEqual(run_script(script), [
            "none", "ok", "1", "ok", "ok", "ok", "1=none", "ok", "1=5", "ok", "broken 1 none", "alike", "2", "5", "0", "bad",
        ])

    def test_as_many_answers_as_lines(self):
        self.assertEqual(run_script(""), [""])
        self.assertEqual(run_script("\n"), ["", ""])
        self.assertEqual(run_script("letters a\n"), ["ok", ""])
        self.assertEqual(run_script("\n\nlog\n"), ["", "", "none", ""])
        source = random.Random(740)
        for _ in range(200):
            script = "".join(source.choices("ab 01\nlogfaresput", k=source.randrange(60)))
            self.assertEqual(len(run_script(script)), script.count("\n") + 1)

    def test_sizes(self):
        self.assertEqual((MAX_SCRIPT, MAX_LINES), (4000, 100))
        self.assertEqual(run_script("\n" * 99), [""] * 100)
        self.assertEqual(run_script("x" * 4000), ["bad"])
        self.assertEqual(run_script("log\n" * 99 + "x" * 3604), ["none"] * 99 + ["bad"])
        for script in ("\n" * 100, "x" * 4001, "log\n" * 100, "log\n" * 99 + "x" * 3605, "x\n" * 3000):
            with self.assertRaises(NotAllowed):
                run_script(script)

    def test_scripts_know_nothing_of_each_other(self):
        self.assertEqual(run_script("letters a\nnew 1\nput 0 a\nlog"), ["ok", "1", "ok", "a"])
        self.assertEqual(run_script("log\nfares\nundo"), ["none"] * 3)
        self.assertEqual(run_script("letters a\nnew 1\nlog\nundo\nundo"), ["ok", "1", "-", "ok", "missing"])

    def test_lists_that_are_returned_and_changed(self):
        found = run_script("letters a\nlog")
        found.clear()
        self.assertEqual(run_script("letters a\nlog"), ["ok", "-"])


GOOD = (
    ("letters a bb", "ok"), ("new 3", "2"), ("first 1 1 7", "ok"), ("first 1 1 none", "ok"), ("last 1 0 0", "ok"),
    ("last 1 0 none", "ok"), ("move 1 0 b 1 99", "ok"), ("move 1 0 b 1 none", "ok"), ("drop 1", "ok"), ("bound 1 5", "ok"),
    ("bound 1 none", "ok"), ("undo", "ok"), ("put 1 b", "ok"), ("cut 0", "ok"), ("change 0 b", "ok"), ("log", "a"),
    ("fares", "1=5"), ("bounds", "1=none"), ("fare 1 a b b", "13"), ("fare 1 b", "none"), ("way 1", "0 1"), ("ways 1 3", "5"),
    ("slice 1 0", "5 : 0 1"), ("edit 1", "5 : change 0 a"), ("single 1", "2"), ("rounds 1", "alike"), ("never 1 1", "never"),
    ("limited 1", "no"), ("greatest 1", "missing"), ("state 1", "0"), ("regret 1 5", "0"), ("forced 1 4", "0"),
)


class LineTest(unittest.TestCase):
    def test_each_form(self):
        for line, answer in GOOD:
            self.assertEqual(after_start(line), [answer], line)

    def test_each_form_with_a_part_less_more_or_spoilt(self):
        for line, answer in GOOD:
            words = line.split(" ")
            # One part more: letters may be more, and a log.
            more = {"letters": ("ok",), "fare": ("none", "17")}.get(words[0], ("bad",))
            self.assertIn(after_start(line + " b")[0], more, line)
            self.assertEqual(after_start(line + " 1")[0], "bad", line)
            if len(words) > 1:
                less = " ".join(words[:-1])
                self.assertEqual(after_start(less)[0], {"letters a": "ok", "fare 1 a b": "9"}.get(less, "bad"), line)
            for at in range(len(words) - 1):
                left = words[:at] + words[at + 1:]
                if not (left[0] == "letters" and left[1:]) and not (left[:2] == ["fare", "1"] and left[2:]):
                    self.assertEqual(after_start(" ".join(left))[0], "bad", line)
                for spoilt in ("", "A", "a1", "1a", "-1", "01", "00", "12345678", "None", "+1", "1.", "a\tb", "~"):
                    changed = " ".join(words[:at + 1] + [spoilt] + words[at + 2:])
                    self.assertEqual(after_start(changed)[0], "bad", changed)
            for changed in (line.upper(), " " + line, line + " ", line.title(), line + "  ", "x" + line, line + "."):
                self.assertEqual(after_start(changed)[0], "bad", changed)
            if " " in line:
                for changed in (line.replace(" ", "  ", 1), line.replace(" ", "", 1), line.replace(" ", ":", 1)):
                    self.assertEqual(after_start(changed)[0], "bad", changed)

    def test_words_and_numbers_in_the_place_of_each_other(self):
        for line in (
            "new a", "new none", "first a 0 0", "first 1 a 0", "first 1 0 a", "first none 0 0", "first 1 none 0", "last 1 0 nona",
            "move 1 0 1 a 2", "move 1 a 0 1 2", "move 1 0 5 1 2", "move 1 0 a b 2", "move 1 0 a none 2", "drop none", "bound none 1",
            "put a 0", "put none a", "put 0 0", "cut a", "cut none", "change a 0", "change 0 1", "fare a", "fare a 1",
            "fare 1 2", "fare 1 a 1", "way a", "ways 1 a", "ways 1 none", "slice a 1", "slice 1 none", "never 1 a", "regret 1 none",
            "forced 1 none", "state none", "letters 1", "letters a 1", "log a", "fares 1", "bounds none", "undo 1", "a", "move",
        ):
            self.assertEqual(after_start(line), ["bad"], line)

    def test_lines_with_no_letters(self):
        self.assertEqual(answers("letters", "letters "), ["bad", "bad"])
        self.assertEqual(after_start("fare 1", "fare 1 "), ["bad", "bad"])

    def test_numbers(self):
        for text, answer in (("9999999", "refused"), ("10000000", "bad"), ("0", "ok"), ("00", "bad"), ("01", "bad"), ("1", "ok")):
            self.assertEqual(after_start(f"first 1 {text} 3")[0], answer)
            self.assertEqual(after_start(f"put {text} a")[0], answer)
        for text, answer in (("9999999", "missing"), ("10000000", "bad"), ("0", "missing"), ("001", "bad"), ("1", "ok")):
            self.assertEqual(after_start(f"drop {text}")[0], answer)
        for text, answer in (("9999999", "refused"), ("99999", "ok"), ("100000", "refused"), ("99999999", "bad"), ("5", "ok")):
            self.assertEqual(after_start(f"bound 1 {text}")[0], answer)
        for text, answer in (("9999999", "refused"), ("9", "refused"), ("0", "refused"), ("8", "2"), ("1", "2"), ("08", "bad")):
            self.assertEqual(after_start(f"new {text}")[0], answer)

    def test_without_an_office(self):
        for line, _ in GOOD:
            self.assertEqual(answers(line), ["ok" if line.startswith("letters") else "none"], line)
            self.assertEqual(answers("letters a a", line)[1], "ok" if line.startswith("letters") else "none")
        self.assertEqual(answers("fare 99 x", "odd", "", "put 5"), ["none", "bad", "", "bad"])

    def test_letters(self):
        self.assertEqual(answers("letters a a", "letters move", "letters abcdefghi", "letters a b c d e", "log"), ["refused"] * 4 + ["none"])
        self.assertEqual(answers("letters abcdefgh b c d", "log", "letters A"), ["ok", "-", "bad"])
        self.assertEqual(answers("letters az z", "put 0 z", "put 0 az", "put 0 zzzzzzzzzzz", "log"), ["ok", "ok", "ok", "refused", "az z"])
        # A new office knows nothing of the one before; one that is refused changes nothing.
        self.assertEqual(after_start("letters b a", "fares", "log", "undo", "new 1"), ["ok", "-", "-", "missing", "1"])
        self.assertEqual(after_start("letters b b", "fares", "log"), ["refused", "1=5", "a"])

    def test_letters_that_are_none(self):
        self.assertEqual(
            after_start("put 0 c", "change 0 abcdefghij", "move 1 0 letters 1 2", "fare 1 a c", "put 0 none", "log", "fares"),
            ["refused"] * 5 + ["a", "1=5"],
        )
        self.assertEqual(after_start("fare 1" + " a" * 400, "fare 1" + " b" * 401), ["none", "refused"])

    def test_machines_are_looked_up_ahead_of_all_else(self):
        for line in (
            "first 2 9 999", "last 2 9 999", "move 2 9 c 9 999", "drop 2", "bound 2 999999", "fare 2 c", "way 2", "ways 2 0",
            "slice 2 99", "edit 2", "single 2", "rounds 2", "never 2 1", "never 1 2", "never 2 3", "limited 2", "greatest 2",
            "state 2", "regret 2 61", "forced 2 9",
        ):
            self.assertEqual(after_start(line, "fares"), ["missing", "1=5"], line)


class ErrorTest(unittest.TestCase):
    def test_refused(self):
        for line in (
            "first 1 2 0", "first 1 0 100", "last 1 2 none", "last 1 1 100", "move 1 2 a 0 0", "move 1 0 a 2 0", "move 1 0 c 0 0",
            "move 1 0 a 0 100", "bound 1 100000", "put 2 a", "cut 1", "change 1 a", "ways 1 0", "ways 1 21", "regret 1 61", "forced 1 9",
            "new 0", "new 9",
        ):
            self.assertEqual(after_start(line, "fares", "log", "undo"), ["refused", "1=5", "a", "ok"], line)

    def test_missing(self):
        self.assertEqual(answers("letters a", "undo", "new 1", "slice 1 0", "slice 1 1", "edit 1", "greatest 1"), ["ok", "missing", "1"] + ["missing"] * 4)
        self.assertEqual(answers("letters a", "new 1", "forced 1 2", "state 1", "regret 1 0", "ways 1 3", "way 1", "single 1")[2:],
                         ["missing", "missing", "missing", "-", "none", "0"])

    def test_large(self):
        self.assertEqual(answers("letters a", *["new 1"] * 7, "new 9", "fares")[7:], ["large", "refused", "1=none 2=none 3=none 4=none 5=none 6=none"])
        found = answers("letters a b", *lines_of(COUNTER, 1), "rounds 1", "single 1", "never 1 1", "limited 1", "greatest 1")
        self.assertEqual(found[-5:], ["drift", "large", "large", "no", "missing"])

    def test_broken(self):
        self.assertEqual(after_start("bound 1 4", "bound 1 5", "put 1 b", "put 0 b", "last 1 1 4", "last 1 1 none", "first 1 0 none",
                                     "move 1 0 a 1 3", "cut 0", "last 1 1 2", "bounds", "fares", "log"),
                         ["broken 1 5", "ok", "broken 1 9", "broken 1 none", "broken 1 6", "broken 1 none", "broken 1 none",
                          "broken 1 6", "broken 1 none", "ok", "1=5", "1=4", "a"])

    def test_the_least_number_that_is_broken(self):
        lines = ["letters a"]
        for name in (1, 2, 3):
            lines += ["new 1", f"first {name} 0 {name}", f"last {name} 0 0", f"move {name} 0 a 0 {4 - name}"]
        lines += ["bound 2 3", "bound 3 3", "put 0 a", "fares", "bound 3 4", "put 0 a", "put 0 a", "fares", "bounds"]
        self.assertEqual(answers(*lines)[13:], ["ok", "ok", "broken 2 4", "1=1 2=2 3=3", "ok", "broken 2 4", "broken 2 4", "1=1 2=2 3=3", "1=none 2=3 3=4"])

    def test_undo(self):
        self.assertEqual(after_start("undo", "log", "undo", "fares", "undo", "undo", "undo", "undo", "fares", "undo", "new 1"),
                         ["ok", "-", "ok", "1=none", "ok", "ok", "ok", "ok", "-", "missing", "1"])


class AnswerTest(unittest.TestCase):
    def test_log_fares_and_bounds(self):
        self.assertEqual(answers("letters a bb", "log", "fares", "bounds", "put 0 bb", "put 0 a", "log"), ["ok", "-", "-", "-", "ok", "ok", "a bb"])
        self.assertEqual(after_start("new 1", "new 8", "drop 2", "bound 1 77", "fares", "bounds"), ["2", "3", "ok", "ok", "1=5 3=none", "1=77 3=none"])

    def test_against_the_functions(self):
        source = random.Random(741)
        told = {}
        machines = [machine for machine in random_machines(742, 200, 3, 2) if len(machine[0]) == 2][:50]
        for machine, other in zip(machines + [PLAIN, FORK, HALF_USEFUL], machines[1:] + [PLAIN, FORK, HALF_USEFUL, COUNTER]):
            log = tuple(source.choices("ab", k=source.randrange(4)))
            office = Office(("a", "b"))
            office.add(machine)
            office.add(other)
            asked = tuple(source.choices("ab", k=2))
            calls = {
                "log": lambda: " ".join(log) or "-",
                "fares": lambda: f"1={number(fare_of(machine, log))} 2={number(fare_of(other, log))}",
                f"fare 1 {' '.join(asked)}": lambda: number(fare_of(machine, asked)),
                "way 1": lambda: "none" if best_way(machine, log) is None else " ".join(map(str, best_way(machine, log))),
                "ways 2 4": lambda: " ".join([str(fare) for fare, _ in cheapest_ways(other, log, 4)]) or "-",
                "slice 1 1": lambda: "{} : {} {}".format(cheapest_slice(machine, log, 1)[0], *cheapest_slice(machine, log, 1)[1]),
                "edit 2": lambda: f"{best_edit(other, log)[0]} : {' '.join(map(str, best_edit(other, log)[1]))}",
                "single 1": lambda: str(len(made(machine)[2])),
                "rounds 2": lambda: rounds(other)[0],
                "never 1 2": lambda: never_dearer(made(machine), made(other))[0],
                "limited 1": lambda: "yes" if is_limited(machine) else "no",
                "greatest 2": lambda: str(greatest_fare(other)),
                "state 1": lambda: str(best_by_state(machine)[0]),
                "regret 2 3": lambda: str(least_regret(other, 3)),
                "forced 1 3": lambda: number(forced(machine, 3)),
            }
            lines = ["letters a b"] + lines_of(machine, 1) + lines_of(other, 2)
            lines += [f"put {at} {letter}" for at, letter in enumerate(log)]
            if len(lines) + len(calls) > MAX_LINES:
                continue
            found = answers(*lines, *calls)[len(lines):]
            for line, answer in zip(calls, found):
                self.assertEqual(answer, expected(calls[line]), (machine, other, log, line))
                word = line.split(" ")[0]
                told.setdefault(word, set()).add(answer)
        for word, seen in (("single", {"large"}), ("never", {"never", "dearer", "large"}), ("rounds", {"alike", "drift"}),
                           ("limited", {"yes", "no"}), ("forced", {"none", "0"}), ("greatest", {"missing"}), ("slice", {"missing"})):
            self.assertTrue(seen <= told[word], (word, told[word]))
