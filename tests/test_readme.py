"""The examples of README.md."""

import doctest
import pathlib
import unittest

README = pathlib.Path(__file__).resolve().parent.parent / "README.md"


class Readme(unittest.TestCase):
    def test_examples(self):
        text = README.read_text(encoding="utf-8").replace("```", "")
        test = doctest.DocTestParser().get_doctest(text, {}, "README.md", str(README), 0)
        runner = doctest.DocTestRunner(verbose=False)
        runner.run(test)
        self.assertEqual(runner.summarize(verbose=False).failed, 0)
        self.assertGreater(runner.tries, 0)
