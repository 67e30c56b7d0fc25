"""The examples of the interface, run as they stand in the document."""

import doctest
import pathlib
import unittest

EXAMPLES = pathlib.Path(__file__).resolve().parent / "examples.txt"


class ExamplesTest(unittest.TestCase):
    def test_examples(self):
        # One after another, as later ones use the machines of those ahead.
        text = EXAMPLES.read_text(encoding="utf-8")
        test = doctest.DocTestParser().get_doctest(text, {}, "examples.txt", str(EXAMPLES), 0)
        self.assertEqual(len(test.examples), 132)
        told = []
        # The document says which error is raised, and not with what words.
        result = doctest.DocTestRunner(optionflags=doctest.IGNORE_EXCEPTION_DETAIL).run(test, out=told.append)
        self.assertEqual(result.failed, 0, "".join(told))
