"""Tests of faremachines.texts ([1.7])."""

import unittest

from faremachines import texts
from faremachines.errors import BadForm
from faremachines.texts import machine_text, read_machine
from tests.samples import COUNTER, HALF_USEFUL, NONE, PLAIN, SINGLE, STUCK, SWAPPING, random_machines

# Lines 1 to 8: the letters, two states, and five moves.
LINES = (
    "letters b ab",
    "state 0 none",
    "state 12 99",
    "move 0 b 0 3",
    "move 0 ab 1 1",
    "move 1 b 0 10",
    "move 1 b 1 0",
    "move 1 ab 1 5",
)
MACHINE = (("b", "ab"), (0, 12), ((((0, 3),), ((1, 1),)), (((0, 10), (1, 0)), ((1, 5),))), (NONE, 99))


def text_of(lines):
    """Return a text with these lines, each with a newline behind it."""
    return "".join([line + "\n" for line in lines])


def with_line(number, line):
    """Return the text of LINES with another line in the place of the one with this number, from 1 on."""
    return text_of(LINES[:number - 1] + (line,) + LINES[number:])


class MachineTextTest(unittest.TestCase):
    def test_the_example(self):
        machine = (("a",), (0, -1), ((((1, 2),),), ((),)), (-1, 0))
        self.assertEqual(machine_text(machine), "letters a\nstate 0 none\nstate none 0\nmove 0 a 1 2\n")

    def test_all_lines(self):
        self.assertEqual(machine_text(MACHINE), text_of(LINES))
        self.assertEqual(machine_text((("a",), (NONE,), (((),),), (NONE,))), "letters a\nstate none none\n")

    def test_the_constant(self):
        self.assertEqual(texts.MAX_TEXT, 8000)


class ReadMachineTest(unittest.TestCase):
    def assert_bad(self, line, text):
        with self.assertRaises(BadForm, msg=repr(text)) as caught:
            read_machine(text)
        self.assertEqual(caught.exception.line, line, repr(text))

    def test_texts_are_given_back(self):
        samples = [MACHINE, PLAIN, SINGLE, COUNTER, SWAPPING, STUCK, HALF_USEFUL]
        for machine in samples + random_machines(9, 60, states=8, letters=4):
            self.assertEqual(read_machine(machine_text(machine)), machine)

    def test_the_longest_text(self):
        letters = ("aaaaaaaa", "bbbbbbbb", "cccccccc", "dddddddd")
        row = tuple([(state, 99) for state in range(8)])
        machine = (letters, (99,) * 8, ((row,) * 4,) * 8, (99,) * 8)
        self.assertEqual(read_machine(machine_text(machine)), machine)
        text = machine_text(machine)
        self.assert_bad(text.count("\n") + 1, text + "move 7 dddddddd 7 99\n")

    def test_each_line_left_out(self):
        bad = {1: 1, 2: 4, 3: 4}
        for number in range(1, 9):
            text = text_of(LINES[:number - 1] + LINES[number:])
            if number in bad:
                self.assert_bad(bad[number], text)
            else:
                self.assertEqual(machine_text(read_machine(text)), text)

    def test_each_line_twice(self):
        for number in range(1, 9):
            text = text_of(LINES[:number] + LINES[number - 1:])
            if number in (2, 3):
                self.assertEqual(machine_text(read_machine(text)), text)
            else:
                self.assert_bad(number + 1, text)

    def test_each_line_exchanged_with_the_next_one(self):
        for number, bad in ((1, 1), (3, 4), (4, 5), (5, 6), (6, 7), (7, 8)):
            lines = list(LINES)
            lines[number - 1], lines[number] = lines[number], lines[number - 1]
            self.assert_bad(bad, text_of(lines))
        lines = [LINES[0], LINES[2], LINES[1]] + list(LINES[3:])
        self.assertEqual(machine_text(read_machine(text_of(lines))), text_of(lines))

    def test_the_line_of_letters(self):
        spoilt = ["", "letters", "letters ", "letters b  ab", " letters b ab", "letters b ab ", "letters b b", "letter b ab"]
        spoilt += ["letters b state", "letters b aB", "letters b abcdefghi", "letters a b c d e", "Letters b ab", "letters b\tab"]
        for line in spoilt:
            self.assert_bad(1, with_line(1, line))
        self.assert_bad(5, with_line(1, "letters b ac"))

    def test_the_lines_of_states(self):
        spoilt = ["", "state", "state 0", "state 0 ", "state  0 1", "state 0  1", " state 0 1", "state 0 1 ", "state 0 1 2"]
        spoilt += ["state 100 0", "state 0 100", "state -1 0", "state 0 -1", "state 00 1", "state 0 01", "state 0 None"]
        spoilt += ["state 0 nones", "state +1 0", "state 1_0 0", "state x 0", "State 0 0", "states 0 0", "state none", "state 0 1."]
        for line in spoilt:
            self.assert_bad(3, with_line(3, line))
        for line in ("state 0 0", "state none none", "state 99 10", "state 9 none"):
            self.assertEqual(machine_text(read_machine(with_line(3, line))), with_line(3, line))

    def test_the_lines_of_moves(self):
        spoilt = ["", "move", "move 0 ab 1", "move 0 ab 1 1 1", "move 0 ab 1 1 ", " move 0 ab 1 1", "move 0 ab  1 1", "move 0  ab 1 1"]
        spoilt += ["move 2 ab 1 1", "move 0 ab 2 1", "move -1 ab 1 1", "move 0 ab -1 1", "move 0 a 1 1", "move 0 none 1 1"]
        spoilt += ["move 0 ab 1 100", "move 0 ab 1 -1", "move 0 ab 1 none", "move 0 ab 1 01", "move 00 ab 1 1", "move 0 ab 01 1"]
        spoilt += ["move 0 ab 1 ", "move 0 ab  1", "move  ab 1 1", "Move 0 ab 1 1", "moves 0 ab 1 1", "move 0 AB 1 1", "move 0  1 1"]
        spoilt += ["move 0 ab 1 x", "state 0 0", "letters b ab", "move none ab 1 1", "move 0 ab none 1", "move 1 ab 1 1 x"]
        for line in spoilt:
            self.assert_bad(5, with_line(5, line))
        for line in ("move 0 ab 0 0", "move 0 ab 1 99", "move 0 b 1 7"):
            self.assertEqual(machine_text(read_machine(with_line(5, line))), with_line(5, line))

    def test_moves_out_of_order(self):
        self.assert_bad(5, with_line(5, "move 0 b 0 4"))
        self.assert_bad(6, with_line(5, "move 1 b 0 10"))
        self.assert_bad(7, with_line(6, "move 1 b 1 10"))
        self.assert_bad(8, with_line(8, "move 1 b 0 0"))
        self.assert_bad(8, with_line(8, "move 0 ab 1 0"))
        # The order of letters is that of the first line, not that of the alphabet.
        self.assert_bad(4, "letters b ab\nstate 0 0\nmove 0 ab 0 1\nmove 0 b 0 1\n")

    def test_numbers_of_very_many_digits(self):
        self.assert_bad(3, with_line(3, "state 0 " + "1" * 5000))
        self.assert_bad(5, with_line(5, "move 0 ab " + "0" * 5000 + " 1"))
        self.assert_bad(4, with_line(4, "move " + "9" * 5000 + " b 0 3"))

    def test_newlines(self):
        text = text_of(LINES)
        self.assert_bad(8, text[:-1])
        self.assert_bad(9, text + "\n")
        self.assert_bad(1, "\n" + text)
        self.assert_bad(9, text + " ")
        self.assert_bad(9, text + "move 1 ab 1 6")
        self.assert_bad(9, text + "x")
        for number in range(2, 9):
            self.assert_bad(number, text_of(LINES[:number - 1]) + "\n" + text_of(LINES[number - 1:]))
            self.assert_bad(number - 1, "\n".join(LINES[:number - 2] + (LINES[number - 2] + LINES[number - 1],)))

    def test_what_is_lacking(self):
        self.assert_bad(1, "")
        self.assert_bad(1, "letters a")
        self.assert_bad(2, "letters a\n")
        self.assert_bad(2, "letters a\nstate 0 0")
        self.assert_bad(3, "letters a\nstate 0 0\nstate 0")
        self.assert_bad(2, "letters a\nmove 0 a 0 1\n")
        self.assert_bad(1, "\n")

    def test_states_behind_moves(self):
        self.assert_bad(4, "letters a\nstate 0 0\nmove 0 a 0 1\nstate 0 0\n")
        # No state can come any more when the first move is told.
        self.assert_bad(3, "letters a\nstate 0 0\nmove 0 a 1 1\nstate 0 0\n")

    def test_nine_states(self):
        eight = "letters a\n" + "state 0 none\n" * 8
        self.assertEqual(len(read_machine(eight)[1]), 8)
        self.assert_bad(10, eight + "state 0 none\n")
        self.assert_bad(10, eight + "state 0 none\nstate x\n")
        self.assertEqual(read_machine(eight + "move 7 a 7 1\n")[2][7], (((7, 1),),))

    def test_more_than_eight_thousand_characters(self):
        self.assert_bad(0, "x" * 8001)
        self.assert_bad(1, "x" * 8000)
        self.assert_bad(0, text_of(LINES) + "\n" * 8000)
        self.assert_bad(9, text_of(LINES) + "\n" * (8000 - len(text_of(LINES))))
