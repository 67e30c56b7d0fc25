"""Tests of faremachines.words ([1.2])."""

import unittest

from faremachines import words
from faremachines.errors import BadForm, NotAllowed
from faremachines.words import check_letters, check_log, is_word, log_text, read_log


class WordsTest(unittest.TestCase):
    def test_constants(self):
        self.assertEqual((words.MAX_WORD, words.MAX_LETTERS, words.MAX_LOG), (8, 4, 400))
        self.assertEqual(words.RESERVED, ("letters", "state", "move", "none"))

    def test_good_words(self):
        for text in ("a", "z", "az", "abcdefgh", "zzzzzzzz", "letter", "states", "moves", "nones", "log"):
            self.assertIs(is_word(text), True, text)

    def test_what_is_no_word(self):
        spoilt = ["", "abcdefghi", "A", "aB", "Ab", "a b", " a", "a ", "a\n", "a1", "1", "a-", "`", "{", "a`", "a{", "_"]
        for text in spoilt + ["letters", "state", "move", "none"]:
            self.assertIs(is_word(text), False, text)

    def test_letters(self):
        for letters in (("a",), ("b", "a"), ("a", "b", "c"), ("abcdefgh", "z", "y", "letter")):
            self.assertIsNone(check_letters(letters), letters)

    def test_what_is_no_letters(self):
        spoilt = [
            (),
            ("a", "b", "c", "d", "e"),
            ("a", "a"),
            ("a", "b", "c", "a"),
            ("a", ""),
            ("a", "B"),
            ("abcdefghi",),
            ("a", "none"),
            ("move", "a"),
            ("a b",),
        ]
        for letters in spoilt:
            with self.assertRaises(NotAllowed, msg=letters):
                check_letters(letters)


class LogsTest(unittest.TestCase):
    letters = ("a", "bc")

    def test_logs_of_all_lengths(self):
        for log in ((), ("a",), ("bc",), ("a", "bc", "a"), ("a",) * 399, ("bc",) * 400):
            self.assertIsNone(check_log(self.letters, log))

    def test_what_is_no_log(self):
        spoilt = [("a",) * 401, ("b",), ("a", "c"), ("d", "a"), ("",), ("a bc",), ("a", "A"), ("bc",) * 400 + ("a",)]
        for log in spoilt:
            with self.assertRaises(NotAllowed):
                check_log(self.letters, log)

    def test_texts_of_logs(self):
        self.assertEqual(log_text(()), "")
        self.assertEqual(log_text(("a",)), "a")
        self.assertEqual(log_text(("a", "bc", "a")), "a bc a")

    def test_texts_are_given_back(self):
        for log in ((), ("a",), ("bc", "a", "a"), ("a", "bc") * 200):
            self.assertEqual(read_log(self.letters, log_text(log)), log)

    def test_more_spaces_may_stand_everywhere(self):
        self.assertEqual(read_log(self.letters, "  a   bc a "), ("a", "bc", "a"))
        self.assertEqual(read_log(self.letters, " a"), ("a",))
        self.assertEqual(read_log(self.letters, "bc   "), ("bc",))
        self.assertEqual(read_log(self.letters, "    "), ())
        self.assertEqual(read_log(self.letters, " " * 500 + "a" + " " * 500), ("a",))

    def test_texts_of_no_log(self):
        spoilt = ["b", "a b", "abc", "a,bc", "a\nbc", "a\n", "\n", "\na", "A", "a " * 401, "none", "a bc d"]
        for text in spoilt:
            with self.assertRaises(BadForm, msg=repr(text)) as caught:
                read_log(self.letters, text)
            self.assertEqual(caught.exception.line, 1)

    def test_the_longest_text(self):
        self.assertEqual(read_log(self.letters, "a " * 400), ("a",) * 400)
