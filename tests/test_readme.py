"""The examples of README.md."""

import doctest
import pathlib
import unittest

README = pathlib.Path(__file__).resolve().parent.parent / "README.md"


class Examples(unittest.TestCase):
    def test_examples(self):
        text = README.read_text(encoding="utf-8").replace("```", "")
        test = doctest.DocTestParser().get_doctest(text, {}, "README.md", str(README), 0)
        self.assertGreater(len(test.examples), 5)
        runner = doctest.DocTestRunner()
        runner.run(test)
        self.assertEqual(runner.summarize(verbose=False).failed, 0)


if __name__ == "__main__":
    unittest.main()
