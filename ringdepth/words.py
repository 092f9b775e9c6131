"""Endless words, told by a begin and a lap."""

from ringdepth.basics import is_text
from ringdepth.checks import check_number, is_text_over
from ringdepth.errors import InvalidText, InvalidWord, TooMany


class Word:
    """An endless word: first the letters of its begin, then those of its lap again and again."""

    MOST_LETTERS = 8000

    def __init__(self, begin, lap):
        if not is_text(begin):
            raise InvalidText(begin)
        if not is_text(lap) or lap == "":
            raise InvalidText(lap)
        if len(begin) > Word.MOST_LETTERS or len(lap) > Word.MOST_LETTERS:
            raise TooMany("letters", Word.MOST_LETTERS)
        # Only the plain telling is kept, so equal words have equal parts.
        self._begin, self._lap = _plain(begin, lap)

    @staticmethod
    def of(lap):
        """The word with an empty begin."""
        return Word("", lap)

    @property
    def begin(self):
        """The begin of the plain telling."""
        return self._begin

    @property
    def lap(self):
        """The lap of the plain telling."""
        return self._lap

    def __getitem__(self, at):
        check_number(at)
        if at < len(self._begin):
            return self._begin[at]
        return self._lap[int(at - len(self._begin)) % len(self._lap)]

    def __iter__(self):
        raise TypeError("an endless word is not iterated over")

    def __contains__(self, value):
        return isinstance(value, str) and len(value) == 1 and value in self._begin + self._lap

    def __radd__(self, other):
        if not is_text(other):
            raise InvalidText(other)
        return Word(other + self._begin, self._lap)

    def __eq__(self, other):
        return isinstance(other, Word) and self._begin == other._begin and self._lap == other._lap

    def __repr__(self):
        return f"Word({self._begin!r}, {self._lap!r})"

    def first(self, number):
        """The text of so many first letters."""
        check_number(number)
        if number > Word.MOST_LETTERS:
            raise TooMany("letters", Word.MOST_LETTERS)
        return self._told(number)

    def behind(self, number):
        """The word that comes behind so many first letters."""
        check_number(number)
        if number < len(self._begin):
            return Word(self._begin[number:], self._lap)
        turn = int(number - len(self._begin)) % len(self._lap)
        return Word("", self._lap[turn:] + self._lap[:turn])

    def coming(self):
        """The letters that come in it, rising."""
        return "".join(sorted(set(self._begin + self._lap)))

    def again(self):
        """The letters that come again and again, rising."""
        return "".join(sorted(set(self._lap)))

    def common(self, other):
        """The number of the first letters in common with another word; None if both are the same."""
        if self == other:
            return None
        # Two laps that go on alike for as many letters as both have go on alike for ever.
        enough = max(len(self._begin), len(other.begin)) + len(self._lap) + len(other.lap)
        mine = self._told(enough)
        theirs = other._told(enough)
        number = 0
        while mine[number] == theirs[number]:
            number = number + 1
        return number

    def _told(self, number):
        """The text of so many first letters, without a limit."""
        laps = number // len(self._lap) + 1
        return (self._begin + self._lap * laps)[:number]


def _plain(begin, lap):
    """The plain begin and lap of the word that is told by these."""
    # A lap stands in its double, behind the first letter, first where its shortest repeat ends.
    short = lap[:(lap + lap).find(lap, 1)]
    spare = 0
    # Letters at the end of the begin that go round with the lap belong to the lap.
    while spare < len(begin) and begin[-1 - spare] == short[-1 - int(spare) % len(short)]:
        spare = spare + 1
    turn = len(short) - int(spare) % len(short)
    return begin[:len(begin) - spare], short[turn:] + short[:turn]


def is_word_over(value, letters):
    """Whether a value is a Word in which no other letters than these come."""
    return isinstance(value, Word) and is_text_over(value.coming(), letters)


def check_word(value, letters):
    """Raises InvalidWord unless the value is a Word in which no other letters than these come."""
    if not is_word_over(value, letters):
        raise InvalidWord(value)
