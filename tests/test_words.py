"""Endless words, against plain walking along begin and lap."""

import unittest
from random import Random

from ringdepth.errors import InvalidNumber, InvalidText, TooMany
from ringdepth.words import Word
from tests.plain import odd_values, plain_telling, texts, told

SHORT = [(begin, lap) for begin in texts("ab", 3) for lap in texts("ab", 3) if lap]
NO_COUNTS = [value for value in odd_values() if not (type(value) is int and value >= 0)]
NO_TEXTS = [value for value in odd_values() if not (isinstance(value, str) and all("a" <= one <= "z" for one in value))]


def other_tellings(begin, lap):
    """Tellings of the same word: laps copied, turned, and partly in the begin."""
    found = []
    for copies in (1, 2, 3):
        for ahead in range(2 * len(lap) + 1):
            turned = told("", lap, ahead + len(lap))[ahead:]
            found.append((told(begin, lap, len(begin) + ahead), turned * copies))
    return found


class MakingTest(unittest.TestCase):

    def test_most_letters(self):
        self.assertEqual(Word.MOST_LETTERS, 8000)
        self.assertEqual(Word("", "a").MOST_LETTERS, 8000)

    def test_begin_that_is_no_text(self):
        for value in NO_TEXTS:
            for lap in ["a", "", None, "a" * 8001]:
                with self.assertRaises(InvalidText) as caught:
                    Word(value, lap)
                self.assertIs(caught.exception.value, value)
                with self.assertRaises(InvalidText) as caught:
                    Word(lap=lap, begin=value)
                self.assertIs(caught.exception.value, value)

    def test_lap_that_is_no_text_or_empty(self):
        for value in NO_TEXTS + [""]:
            for begin in ["", "ab", "a" * 8001]:
                with self.assertRaises(InvalidText) as caught:
                    Word(begin, value)
                self.assertIs(caught.exception.value, value)
                with self.assertRaises(InvalidText) as caught:
                    Word(lap=value, begin=begin)
                self.assertIs(caught.exception.value, value)

    def test_too_many_letters(self):
        self.assertEqual(Word("a" * 8000, "b").begin, "a" * 8000)
        self.assertEqual(Word("", "a" * 7999 + "b").lap, "a" * 7999 + "b")
        self.assertEqual(Word("b" * 8000, "a" * 7999 + "c"), Word(begin="b" * 8000, lap="a" * 7999 + "c"))
        for begin, lap in [("a" * 8001, "b"), ("", "b" * 8001), ("a" * 8001, "b" * 8001), ("b", "a" * 8001)]:
            for made in [lambda: Word(begin, lap), lambda: Word(lap=lap, begin=begin)]:
                with self.assertRaises(TooMany) as caught:
                    made()
                self.assertEqual((caught.exception.what, caught.exception.limit), ("letters", 8000))

    def test_limit_is_for_what_is_passed(self):
        # The plain telling of each would be short.
        for begin, lap in [("a" * 8001, "a"), ("", "a" * 8001)]:
            self.assertRaises(TooMany, Word, begin, lap)
        self.assertEqual(Word("a" * 8000, "a" * 8000), Word("", "a"))

    def test_of(self):
        for lap in texts("ab", 4)[1:]:
            self.assertEqual(Word.of(lap), Word("", lap))
            self.assertEqual(Word.of(lap=lap), Word("", lap))
            self.assertEqual((Word.of(lap).begin, Word.of(lap).lap), plain_telling("", lap))
        for value in NO_TEXTS + [""]:
            with self.assertRaises(InvalidText) as caught:
                Word.of(value)
            self.assertIs(caught.exception.value, value)
            with self.assertRaises(InvalidText) as caught:
                Word.of(lap=value)
            self.assertIs(caught.exception.value, value)
        self.assertEqual(Word.of("a" * 7999 + "b").lap, "a" * 7999 + "b")
        with self.assertRaises(TooMany) as caught:
            Word.of("a" * 8001)
        self.assertEqual((caught.exception.what, caught.exception.limit), ("letters", 8000))


class PlainTest(unittest.TestCase):

    def test_plain_begin_and_lap(self):
        for begin, lap in [(begin, lap) for begin in texts("ab", 4) for lap in texts("ab", 5)[1:]]:
            word = Word(begin, lap)
            self.assertEqual((word.begin, word.lap), plain_telling(begin, lap), (begin, lap))

    def test_plain_over_many_letters(self):
        random = Random(1)
        for _ in range(500):
            begin = "".join(random.choice("abcxyz") for _ in range(random.randrange(12)))
            lap = "".join(random.choice("abz") for _ in range(random.randrange(1, 8))) * random.randrange(1, 4)
            begin = begin + lap[random.randrange(len(lap)):]
            word = Word(begin, lap)
            self.assertEqual((word.begin, word.lap), plain_telling(begin, lap))

    def test_all_tellings_are_one_word(self):
        for begin, lap in SHORT:
            plain = plain_telling(begin, lap)
            for other_begin, other_lap in other_tellings(begin, lap):
                word = Word(other_begin, other_lap)
                self.assertEqual((word.begin, word.lap), plain)
                self.assertTrue(word == Word(begin, lap))
                self.assertFalse(word != Word(begin, lap))
                self.assertEqual(repr(word), f"Word({plain[0]!r}, {plain[1]!r})")

    def test_equal_just_if_the_same_letters_come(self):
        shown = {telling: told(*telling, 20) for telling in SHORT}
        words = {telling: Word(*telling) for telling in SHORT}
        for one in SHORT:
            for other in SHORT:
                self.assertIs(words[one] == words[other], shown[one] == shown[other])
                self.assertIs(words[one] != words[other], shown[one] != shown[other])

    def test_long_tellings(self):
        self.assertEqual(Word("ab" * 4000, "ab" * 4000), Word.of("ab"))
        self.assertEqual(Word("b" + "ab" * 3999, "abab"), Word.of("ba"))
        self.assertEqual(repr(Word("a" * 8000, "a" * 8000)), "Word('', 'a')")
        word = Word("c" + "ba" * 3999, "ba" * 3000)
        self.assertEqual((word.begin, word.lap), ("c", "ba"))

    def test_not_equal_to_other_kinds(self):
        for value in odd_values()[:-2] + ["ab", ("", "a"), "Word('', 'a')"]:
            self.assertIs(Word("", "a") == value, False)
            self.assertIs(Word("", "a") != value, True)

    def test_repr(self):
        self.assertEqual(repr(Word("ab", "bab")), "Word('', 'abb')")
        self.assertEqual(repr(Word("b", "a")), "Word('b', 'a')")
        self.assertEqual(str(Word("b", "aa")), "Word('b', 'a')")


class LettersTest(unittest.TestCase):

    def test_letter_at_a_place(self):
        for begin, lap in SHORT:
            word = Word(begin, lap)
            self.assertEqual("".join(word[number] for number in range(16)), told(begin, lap, 16))

    def test_letter_at_and_beyond_the_end_of_the_begin(self):
        word = Word("abc", "de")
        self.assertEqual([word[0], word[2], word[3], word[4], word[5]], ["a", "c", "d", "e", "d"])

    def test_letter_at_far_places(self):
        word = Word("xy", "abcdefg")
        for number in [10 ** 9, 10 ** 18 + 3, 10 ** 29, 10 ** 30 - 1, 123456789012345678901234567890]:
            self.assertEqual(word[number], "abcdefg"[(number - 2) % 7])
            self.assertEqual(word.behind(number), Word.of("abcdefg"[(number - 2) % 7:] + "abcdefg"[:(number - 2) % 7]))

    def test_numbers_that_are_no_counts(self):
        word = Word("ab", "b")
        for value in NO_COUNTS + [slice(0, 1), slice(None)]:
            for asked in [lambda: word[value], lambda: word.first(value), lambda: word.behind(value),
                          lambda: word.first(number=value), lambda: word.behind(number=value)]:
                with self.assertRaises(InvalidNumber) as caught:
                    asked()
                self.assertIs(caught.exception.value, value)

    def test_first(self):
        for begin, lap in SHORT:
            word = Word(begin, lap)
            for number in range(14):
                self.assertEqual(word.first(number), told(begin, lap, number))
                self.assertEqual(word.first(number=number), told(begin, lap, number))

    def test_first_at_its_limit(self):
        word = Word("c", "aab")
        self.assertEqual(word.first(8000), told("c", "aab", 8000))
        self.assertEqual(Word("ab" * 4000, "c").first(8000), "ab" * 4000)
        for number in [8001, 10 ** 29]:
            with self.assertRaises(TooMany) as caught:
                word.first(number)
            self.assertEqual((caught.exception.what, caught.exception.limit), ("letters", 8000))

    def test_behind(self):
        for begin, lap in SHORT:
            word = Word(begin, lap)
            for number in range(12):
                rest = word.behind(number)
                self.assertIsInstance(rest, Word)
                self.assertEqual(rest.first(12), told(begin, lap, number + 12)[number:])
                ahead = max(0, number - len(begin))
                turned = told("", lap, ahead + len(lap))[ahead:]
                self.assertEqual((rest.begin, rest.lap), plain_telling(begin[number:], turned))
                self.assertEqual(word.behind(number=number), rest)

    def test_coming_and_again(self):
        for begin, lap in SHORT + [("zc", "by"), ("aaa", "a"), ("cba", "zyx"), ("abcab", "cab")]:
            word = Word(begin, lap)
            self.assertEqual(word.coming(), "".join(sorted(set(told(begin, lap, 30)))))
            self.assertEqual(word.again(), "".join(sorted(set(told(begin, lap, 60)[30:]))))

    def test_in(self):
        for begin, lap in SHORT + [("zc", "by")]:
            word = Word(begin, lap)
            for letter in "abcdefghijklmnopqrstuvwxyz":
                self.assertIs(letter in word, letter in begin or letter in lap)
                self.assertIs(letter not in word, not (letter in begin or letter in lap))
        for value in odd_values() + [Word("a", "b")]:
            self.assertIs(value in Word("ab", "b"), isinstance(value, str) and value in ["a", "b"])

    def test_not_iterated(self):
        self.assertRaises(TypeError, iter, Word("a", "b"))
        self.assertRaises(TypeError, list, Word("a", "b"))


class AheadTest(unittest.TestCase):

    def test_text_ahead(self):
        for begin, lap in SHORT:
            for text in texts("ab", 3):
                word = text + Word(begin, lap)
                self.assertIsInstance(word, Word)
                self.assertEqual(word.first(20), told(text + begin, lap, 20))
                self.assertEqual((word.begin, word.lap), plain_telling(text + begin, lap))

    def test_other_values_ahead(self):
        for value in NO_TEXTS:
            with self.assertRaises(InvalidText) as caught:
                value + Word("", "a")
            self.assertIs(caught.exception.value, value)

    def test_too_many_together(self):
        word = Word("b" * 3000, "a")
        self.assertEqual(("c" * 5000 + word).begin, "c" * 5000 + "b" * 3000)
        self.assertEqual(("a" * 8000 + Word("", "a")), Word("", "a"))
        self.assertEqual(("a" * 8000 + Word("", "b")).begin, "a" * 8000)
        for text, behind in [("c" * 5001, word), ("a" * 8001, Word("", "a")), ("a", Word("b" * 8000, "a"))]:
            with self.assertRaises(TooMany) as caught:
                text + behind
            self.assertEqual((caught.exception.what, caught.exception.limit), ("letters", 8000))

    def test_the_plain_begin_counts(self):
        # Its begin as told has 3000 letters, its plain begin none.
        self.assertEqual("b" * 8000 + Word("a" * 3000, "a"), Word("b" * 8000, "a"))

    def test_wrong_text_ahead_of_too_many(self):
        with self.assertRaises(InvalidText) as caught:
            "A" * 9000 + Word("b" * 8000, "a")
        self.assertEqual(caught.exception.value, "A" * 9000)


class CommonTest(unittest.TestCase):

    def test_common(self):
        for one in SHORT:
            for other in SHORT:
                first, second = told(*one, 20), told(*other, 20)
                expected = None
                if first != second:
                    expected = [a == b for a, b in zip(first, second)].index(False)
                self.assertEqual(Word(*one).common(Word(*other)), expected)

    def test_same_words_told_otherwise(self):
        for begin, lap in SHORT:
            for telling in other_tellings(begin, lap):
                self.assertIsNone(Word(begin, lap).common(Word(*telling)))
                self.assertIsNone(Word(*telling).common(other=Word(begin, lap)))

    def test_words_that_part_late(self):
        pairs = [
            (Word("", "a" * 7999 + "b"), Word("", "a" * 7998 + "b"), 7998),
            (Word("a" * 8000, "b"), Word("", "a"), 8000),
            (Word("a" * 8000, "b"), Word("a" * 7999, "b"), 7999),
            (Word("a" * 7999 + "b", "a"), Word("", "a" * 7999 + "b"), 15999),
            (Word("", "ab" * 3999 + "ac"), Word("", "ab"), 7999),
        ]
        # Laps of Fibonacci lengths agree for as long as two laps can.
        short, long = "a", "ab"
        while len(long) < 4000:
            short, long = long, long + short
        agreed = 0
        first, second = told("", short, 20000), told("", long, 20000)
        while first[agreed] == second[agreed]:
            agreed += 1
        self.assertEqual(agreed, len(short) + len(long) - 2)
        pairs.append((Word.of(short), Word.of(long), agreed))
        pairs.append((Word("b" * 8000, short), Word("b" * 8000, long), 8000 + agreed))
        pairs.append((Word("a" * 8000, "ba"), Word("a" * 8000, "baa"), 8002))
        for one, other, number in pairs:
            self.assertEqual(one.common(other), number)
            self.assertEqual(other.common(one), number)


class UnchangedTest(unittest.TestCase):

    def test_calls_change_nothing_and_repeat(self):
        word = Word("ab", "bab")
        other = Word("abb", "a")
        calls = [
            lambda: word.begin, lambda: word.lap, lambda: word[5], lambda: word.first(9), lambda: word.behind(3),
            lambda: "ba" + word, lambda: word.coming(), lambda: word.again(), lambda: word.common(other),
            lambda: "a" in word, lambda: word == other, lambda: repr(word), lambda: Word.of("abab"),
        ]
        first = [call() for call in calls]
        self.assertEqual([call() for call in reversed(calls)], first[::-1])
        self.assertEqual((word.begin, word.lap, word.first(12)), ("", "abb", "abbabbabbabb"))
        self.assertEqual(repr(other), "Word('abb', 'a')")

    def test_errors_change_nothing(self):
        word = Word("ab", "b")
        for call in [lambda: word.first(8001), lambda: word[-1], lambda: word.behind(None), lambda: 5 + word]:
            self.assertRaises((InvalidNumber, InvalidText, TooMany), call)
        self.assertEqual(repr(word), "Word('a', 'b')")

    def test_properties_cannot_be_set(self):
        word = Word("ab", "a")
        for name in ["begin", "lap"]:
            self.assertRaises(AttributeError, setattr, word, name, "b")
        self.assertEqual(repr(word), "Word('ab', 'a')")


class ExampleTest(unittest.TestCase):
    """The lines of the document's example that speak of words."""

    def test_example(self):
        word = Word("ab", "bab")
        self.assertEqual(
            repr([word, word[4], word.first(5), word.behind(2), "a" + word, word.again(), word.common(Word.of("ab"))]),
            "[Word('', 'abb'), 'b', 'abbab', Word('', 'bab'), Word('a', 'abb'), 'ab', 2]")


if __name__ == "__main__":
    unittest.main()
