"""Point 1: README.md says what the package is about, and its examples are true."""

import doctest
import pathlib
import unittest

README = pathlib.Path(__file__).resolve().parent.parent / "README.md"


class ReadmeTest(unittest.TestCase):

    def test_it_says_what_the_package_is_about(self):
        text = " ".join(README.read_text(encoding="utf-8").split())
        for words in (
            "In a knockout cup with 2 ** k players the loser of a match is out, until one champion is left.",
            "Some results are known, without their rounds, and some claims: a player won at least so many matches.",
            "It counts and numbers the cups for some claims,",
            "and keeps a live talk that refuses what does not fit and can undo.",
            "bash .ci/run",
        ):
            self.assertIn(words, text)

    def test_its_examples_are_true(self):
        failed, tried = doctest.testfile(str(README), module_relative=False)
        self.assertEqual(0, failed)
        self.assertGreater(tried, 0)


if __name__ == "__main__":
    unittest.main()
