"""Machines without choice, and the paired machine of two."""

from ringdepth.basics import are_letters
from ringdepth.checks import check_letter, check_place, check_same_letters, check_text, is_list, is_place
from ringdepth.errors import InvalidLetters, InvalidRows, TooMany
from ringdepth.graphs import least_text, paired_rows, path, places_from, renumbered, walks_again
from ringdepth.words import check_word


class Machine:
    """A machine: letters, and for each place a row of its goals by the letters; it begins at place 0."""

    MOST_PLACES = 120

    def __init__(self, letters, rows):
        _check_rows(letters, rows)
        order = places_from(rows, 0)
        lost = [place for place in range(len(rows)) if place not in order]
        if lost:
            raise InvalidRows(lost[0])
        self._letters = letters
        self._rows = [list(row) for row in rows]

    @staticmethod
    def come_to(letters, rows):
        """The machine of the places of these rows that are come to, numbered as come to."""
        _check_rows(letters, rows)
        return Machine(letters, renumbered(rows, places_from(rows, 0)))

    @property
    def letters(self):
        """Its letters, rising."""
        return self._letters

    def __len__(self):
        return len(self._rows)

    def __contains__(self, value):
        return is_place(value, len(self._rows))

    def __eq__(self, other):
        return isinstance(other, Machine) and self._letters == other._letters and self._rows == other._rows

    def __repr__(self):
        return f"Machine({self._letters!r}, {self._rows!r})"

    def rows(self):
        """The list of the lists of goals."""
        return [list(row) for row in self._rows]

    def goal(self, place, letter):
        """The goal of the step from this place by this letter."""
        check_place(place, len(self._rows))
        check_letter(letter, self._letters)
        return self._rows[place][self._letters.index(letter)]

    def walk(self, text):
        """The list of the places from 0 on, one more than the letters."""
        check_text(text, self._letters)
        return path(self._rows, self._letters, 0, text)

    def goes(self, place, text):
        """The place to which the text leads from this place."""
        check_place(place, len(self._rows))
        check_text(text, self._letters)
        return path(self._rows, self._letters, place, text)[-1]

    def first_text(self, place):
        """The least text that leads to this place from place 0."""
        check_place(place, len(self._rows))
        return least_text(self._rows, self._letters, place)

    def met(self, word):
        """The tuple of the places that the word meets, rising."""
        check_word(word, self._letters)
        walks = walks_again(self._rows, self._letters, self.goes(0, word.begin), word.lap)
        return tuple(sorted({place for walk in walks for place in walk}))

    def numbered(self):
        """The same machine, numbered as come to."""
        return self.at(0)

    def at(self, place):
        """The machine of the places that are come to from this place, numbered as come to from it."""
        check_place(place, len(self._rows))
        return Machine(self._letters, renumbered(self._rows, places_from(self._rows, place)))


def paired(one, other):
    """A tuple of the paired machine and the list of the pairs of places, as they are numbered."""
    check_same_letters(one, other)
    rows, pairs = paired_rows(one.rows(), other.rows())
    return Machine(one.letters, rows), pairs


def _check_rows(letters, rows):
    """Raises the error of what is wrong with letters and rows, but for places that are not come to."""
    if not are_letters(letters):
        raise InvalidLetters(letters)
    if not is_list(rows) or len(rows) == 0:
        raise InvalidRows(None)
    for position, row in enumerate(rows):
        if not _is_row(row, len(letters), len(rows)):
            raise InvalidRows(position)
    if len(rows) > Machine.MOST_PLACES:
        raise TooMany("places", Machine.MOST_PLACES)


def _is_row(value, width, many):
    """Whether a value is a list of so many (width) goals, each one of so many (many) places."""
    return is_list(value) and len(value) == width and all([is_place(goal, many) for goal in value])
