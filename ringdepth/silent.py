"""Words without a letter, and letters that may be left out without a change of what is granted."""

from ringdepth.basics import is_text
from ringdepth.checks import check_letter
from ringdepth.errors import InvalidLetter, NoWord
from ringdepth.graphs import greatest_rings, least_text, paired_rows, tour
from ringdepth.pairing import shadow
from ringdepth.words import Word, is_word_over

# Two walkers read the other letters together, and each of them the letter in question by itself. These signs tell
# which one does so; they are no letters.
ONE_ALONE = "1"
OTHER_ALONE = "2"


def left_out(word, letter):
    """The Word without this letter."""
    _check_any_letter(letter)
    if not _is_left(word, letter):
        raise NoWord()
    return Word(word.begin.replace(letter, ""), word.lap.replace(letter, ""))


def are_alike_without(one, other, letter):
    """Whether two Words are the same without this letter."""
    return left_out(one, letter) == left_out(other, letter)


def is_silent(wish, letter):
    """Whether the letter is silent for the wish."""
    return loud(wish, letter) is None


def loud(wish, letter):
    """A tuple of a Word that is granted the wish, and one that is not, the same without the letter; None if silent."""
    check_letter(letter, wish.letters)
    firsts, seconds, signs = _walkers(wish, letter)
    rows, pairs = paired_rows(firsts, seconds)
    together = len(wish.letters) - 1
    for good in wish.good():
        for bad in wish.bad():
            found = _common_round(rows, pairs, good, bad, together)
            if found is not None:
                return _words_of(rows, signs, found, letter)
    return None


def are_loud(wish, letter, value):
    """Whether any value is such a tuple."""
    check_letter(letter, wish.letters)
    if not isinstance(value, tuple) or len(value) != 2:
        return False
    if not all([is_word_over(word, wish.letters) and _is_left(word, letter) for word in value]):
        return False
    one, other = value
    return are_alike_without(one, other, letter) and wish(one) and not wish(other)


def _check_any_letter(value):
    """Raises InvalidLetter unless the value is a letter from a to z."""
    if not is_text(value) or len(value) != 1:
        raise InvalidLetter(value)


def _is_left(word, letter):
    """Whether a Word is an endless word without this letter, too."""
    return word.lap.strip(letter) != ""


def _walkers(wish, letter):
    """The rows of the one and of the other walker over all signs, and these signs: other letters, and both alone."""
    at = wish.letters.index(letter)
    firsts = []
    seconds = []
    for place, row in enumerate(wish.machine.rows()):
        firsts.append(row[:at] + row[at + 1:] + [row[at], place])
        seconds.append(row[:at] + row[at + 1:] + [place, row[at]])
    return firsts, seconds, wish.letters.replace(letter, "") + ONE_ALONE + OTHER_ALONE


def _common_round(rows, pairs, good, bad, together):
    """How both can go round for ever over just these rings, with steps that they make together.

    It is told by a tuple: a dict whose keys are the pairs on their way, and the place and column of such a step; its
    columns are the first ones, so many (together). None if they cannot.
    """
    inside = [place for place, (first, second) in enumerate(pairs) if first in good and second in bad]
    for ring in greatest_rings(rows, inside):
        if shadow(ring, pairs, 0) == good and shadow(ring, pairs, 1) == bad:
            steps = [(place, column) for place in ring for column in range(together) if rows[place][column] in ring]
            if steps:
                place, column = steps[0]
                return {near: near for near in ring}, place, column
    return None


def _words_of(rows, signs, found, letter):
    """The Words of both walkers who go round so."""
    marks, place, column = found
    begin = least_text(rows, signs, place)
    # At most 36 pairs are met, each behind no more steps than there are pairs, so the lap has few letters.
    lap = signs[column] + tour(rows, signs, marks, rows[place][column], place)
    one = Word(_read(begin, letter, ONE_ALONE, OTHER_ALONE), _read(lap, letter, ONE_ALONE, OTHER_ALONE))
    return one, Word(_read(begin, letter, OTHER_ALONE, ONE_ALONE), _read(lap, letter, OTHER_ALONE, ONE_ALONE))


def _read(text, letter, mine, theirs):
    """The letters that a walker reads by signs, of which mine is for this walker alone, theirs for the other one."""
    return text.replace(theirs, "").replace(mine, letter)
