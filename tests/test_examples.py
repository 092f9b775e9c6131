"""The lines of the document's examples, and those of README.md, as they stand there."""

import doctest
import pathlib
import unittest

README = pathlib.Path(__file__).resolve().parent.parent / "README.md"

WORDS = """
>>> from ringdepth.words import Word
>>> word = Word("ab", "bab")
>>> [word, word[4], word.first(5), word.behind(2), "a" + word, word.again(), word.common(Word.of("ab"))]
[Word('', 'abb'), 'b', 'abbab', Word('', 'bab'), Word('a', 'abb'), 'ab', 2]
"""


def failures(text, name):
    """How many lines of a text of examples fail, and how many there are."""
    test = doctest.DocTestParser().get_doctest(text, {}, name, name, 0)
    done = doctest.DocTestRunner(verbose=False).run(test)
    return done.failed, done.attempted


class ExamplesTest(unittest.TestCase):

    def test_words(self):
        self.assertEqual(failures(WORDS, "words"), (0, 3))

    def test_readme(self):
        # A fence would be read as a line of the result above it.
        text = README.read_text(encoding="ascii").replace("```", "")
        failed, attempted = failures(text, "README.md")
        self.assertEqual(failed, 0)
        self.assertGreaterEqual(attempted, 3)


if __name__ == "__main__":
    unittest.main()
