"""The examples of README.md, run as they stand there."""

import doctest
import pathlib
import unittest

README = pathlib.Path(__file__).resolve().parent.parent / "README.md"


class ReadmeTest(unittest.TestCase):
    def test_examples(self):
        # The line that ends a block of code is no answer.
        text = README.read_text(encoding="utf-8").replace("```", "")
        test = doctest.DocTestParser().get_doctest(text, {}, "README.md", str(README), 0)
        self.assertGreater(len(test.examples), 5)
        told = []
        result = doctest.DocTestRunner().run(test, out=told.append)
        self.assertEqual(result.failed, 0, "".join(told))
