"""Checks of what is passed that several files share; each check raises the error of its parameter."""

from ringdepth.basics import is_count, is_integer
from ringdepth.errors import InvalidLetter, InvalidNumber, InvalidPlace, InvalidText, OtherLetters


def is_list(value):
    """Whether a value may be passed where a list is asked for."""
    return isinstance(value, (list, tuple))


def is_place(value, many):
    """Whether a value is one of so many places."""
    return is_integer(value) and 0 <= value < many


def is_letter_of(value, letters):
    """Whether a value is one of these letters."""
    return isinstance(value, str) and len(value) == 1 and value in letters


def is_text_over(value, letters):
    """Whether a value is a text that has no other letters than these."""
    return isinstance(value, str) and value.strip(letters) == ""


def first_wrong_place(values, many):
    """The position of the first value that is none of so many places, or stands ahead; None if none is wrong."""
    seen = {}
    for position, value in enumerate(values):
        if not is_place(value, many) or value in seen:
            return position
        seen[value] = True
    return None


def check_number(value):
    """Raises InvalidNumber unless the value is a COUNT."""
    if not is_count(value):
        raise InvalidNumber(value)


def check_place(value, many):
    """Raises InvalidPlace unless the value is one of so many places."""
    if not is_place(value, many):
        raise InvalidPlace(value)


def check_letter(value, letters):
    """Raises InvalidLetter unless the value is one of these letters."""
    if not is_letter_of(value, letters):
        raise InvalidLetter(value)


def check_text(value, letters):
    """Raises InvalidText unless the value is a text over these letters."""
    if not is_text_over(value, letters):
        raise InvalidText(value)


def check_same_letters(one, other):
    """Raises OtherLetters unless both, Machines or Wishes, have the same letters."""
    if one.letters != other.letters:
        raise OtherLetters(one.letters, other.letters)
