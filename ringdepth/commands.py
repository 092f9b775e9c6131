"""Commands of a desk: what a string asks for, read for the wish that the desk has."""

from ringdepth.checks import is_letter_of, is_text_over
from ringdepth.rings import is_ring

# A begin or a text without letters is written so.
NO_LETTERS = "-"

# What a reader returns for words that are wrong.
WRONG = (None,)

KINDS = {"good": True, "bad": False}


def _read_nothing(_, words):
    """Nothing, from no words."""
    return WRONG if words else ()


def _read_ring(wish, words):
    """A ring, from its places."""
    ring = tuple([_place(wish, word) for word in words])
    return (ring,) if is_ring(wish.machine, ring) else WRONG


def _read_set(wish, words):
    """A ring and whether it is good, from a kind and the places of the ring."""
    if not words or words[0] not in KINDS:
        return WRONG
    return _read_ring(wish, words[1:]) + (KINDS[words[0]],)


def _read_goal(wish, words):
    """A place, a letter and a goal, from such words."""
    if len(words) != 3 or not is_letter_of(words[1], wish.letters):
        return WRONG
    return _place(wish, words[0]), words[1], _place(wish, words[2])


def _read_granted(wish, words):
    """A begin and a lap, from such words."""
    if len(words) != 2 or words[1] == NO_LETTERS:
        return WRONG
    return _text(wish, words[0]), _text(wish, words[1])


def _read_settled(wish, words):
    """A text, from such a word."""
    return (_text(wish, words[0]),) if len(words) == 1 else WRONG


# What reads the words behind the first one.
READERS = {"depth": _read_nothing, "ranks": _read_nothing, "kind": _read_ring, "set": _read_set, "goal": _read_goal,
           "granted": _read_granted, "settled": _read_settled, "undo": _read_nothing}


def read_command(wish, value):
    """The tuple of the first word of a command and of what it is about; None if a value is no command for the wish."""
    if not isinstance(value, str):
        return None
    words = value.split(" ")
    if words[0] not in READERS:
        return None
    read = READERS[words[0]]
    about = read(wish, words[1:])
    return None if None in about else (words[0],) + about


def _place(wish, word):
    """The place of a numeral; None if it tells none."""
    numerals = {str(place): place for place in range(len(wish.machine))}
    return numerals.get(word)


def _text(wish, word):
    """The text that a word tells; None if it tells none."""
    if word == NO_LETTERS:
        return ""
    return word if word != "" and is_text_over(word, wish.letters) else None
