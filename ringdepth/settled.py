"""What a begin of a word settles: whether the wish is granted whatever comes, is not, or is open."""

from ringdepth.checks import check_number, is_list
from ringdepth.errors import TooMany
from ringdepth.graphs import merged, paired_rows, places_from
from ringdepth.machines import Machine
from ringdepth.wishes import ring_kinds

# Texts of more letters than these are not counted.
MOST_LETTERS_COUNTED = 60


def settled(wish, text):
    """The word that tells what is settled behind this text: yes, no or open."""
    return answers(wish)[wish.machine.goes(0, text)]


def answers(wish):
    """The list of these words of the places."""
    rows = wish.machine.rows()
    kinds = ring_kinds(wish)
    return [_answer(kinds, places_from(rows, place)) for place in range(len(rows))]


def first_settling(wish, is_good):
    """The least text behind which the wish is settled yes (if is_good) or no; None if there is none."""
    asked = "yes" if is_good else "no"
    texts = [wish.machine.first_text(place) for place, word in enumerate(answers(wish)) if word == asked]
    return min(sorted(texts), key=len, default=None)


def how_many_open(wish, number):
    """How many texts of just so many letters leave the wish open."""
    check_number(number)
    if number > MOST_LETTERS_COUNTED:
        raise TooMany("letters", MOST_LETTERS_COUNTED)
    rows = wish.machine.rows()
    # For each place, how many texts that begin there end at an open place.
    many = [1 if word == "open" else 0 for word in answers(wish)]
    for _ in range(number):
        many = [sum([many[goal] for goal in row]) for row in rows]
    return many[0]


def open_for_ever(wish):
    """The sorted list of the open places from which no text leads to a settled one."""
    rows = wish.machine.rows()
    words = answers(wish)
    return [place for place in range(len(rows)) if all([words[near] == "open" for near in places_from(rows, place)])]


def watcher(wish):
    """A tuple of the least watcher and the list of its answers."""
    rows = wish.machine.rows()
    words = answers(wish)
    found, old = merged(rows, _told_apart(rows, words))
    return Machine(wish.letters, found), [words[place] for place in old]


def is_watcher(wish, value):
    """Whether any value is a tuple of a Machine with the same letters and its answers that is a watcher."""
    if not isinstance(value, tuple) or len(value) != 2:
        return False
    machine, words = value
    if not isinstance(machine, Machine) or machine.letters != wish.letters:
        return False
    if not is_list(words) or len(words) != len(machine) or not all([isinstance(word, str) for word in words]):
        return False
    right = answers(wish)
    _, pairs = paired_rows(wish.machine.rows(), machine.rows())
    return all([words[near] == right[place] for place, near in pairs])


def _answer(kinds, places):
    """The answer of a place from which just these places are come to."""
    # All places of a ring are come to if one of them is.
    met = [kinds[ring] for ring in kinds if ring[0] in places]
    if all(met):
        return "yes"
    return "open" if any(met) else "no"


def _told_apart(rows, words):
    """For each place a number; just places from which each text leads to the same answer have the same number."""
    signs = list(words)
    many = 0
    # Places with one sign are told apart by the signs of their goals, until no new ones come of it.
    while len(set(signs)) > many:
        known = sorted(set(signs))
        many = len(known)
        numbers = [known.index(sign) for sign in signs]
        signs = [(numbers[place], tuple([numbers[goal] for goal in row])) for place, row in enumerate(rows)]
    return numbers
