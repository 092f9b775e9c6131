"""Edits: wishes made of a wish by other letters, by places joined or split, and by other goals."""

from ringdepth.basics import are_letters
from ringdepth.checks import check_letter, check_place, is_list, is_letter_of, is_place
from ringdepth.errors import InvalidLetters, InvalidPlace, InvalidSteps, NotComeTo, NotOne, NoWord, OtherGoals, TooMany
from ringdepth.graphs import merged, places_from, renumbered
from ringdepth.machines import Machine
from ringdepth.rings import rings
from ringdepth.wishes import Wish


def renamed(wish, letters):
    """The wish with these letters in the place of its own, in sequence."""
    if not are_letters(letters) or len(letters) != len(wish.letters):
        raise InvalidLetters(letters)
    return Wish(Machine(letters, wish.machine.rows()), wish.good())


def without_letter(wish, letter):
    """The wish of the words without this letter."""
    check_letter(letter, wish.letters)
    letters = wish.letters.replace(letter, "")
    if letters == "":
        raise NoWord()
    at = wish.letters.index(letter)
    rows = [row[:at] + row[at + 1:] for row in wish.machine.rows()]
    order = places_from(rows, 0)
    return _wish_over(wish, letters, renumbered(rows, order), order)


def joined(wish, one, other):
    """The wish in which the lesser one of two places stands in the place of the greater one, too."""
    rows = wish.machine.rows()
    check_place(one, len(rows))
    check_place(other, len(rows))
    if one == other:
        raise InvalidPlace(other)
    kept = _standing(len(rows), max(one, other), min(one, other))
    if [kept[goal] for goal in rows[one]] != [kept[goal] for goal in rows[other]]:
        raise OtherGoals(one, other)
    for good in wish.good():
        for bad in wish.bad():
            if _image(good, kept) == _image(bad, kept):
                raise NotOne(good, bad)
    left = sorted(set(kept))
    found, old = merged(rows, [left.index(place) for place in kept])
    lots = [[old.index(place) for place in _image(ring, kept)] for ring in wish.good()]
    return Wish(Machine(wish.letters, found), lots)


def split(wish, place, steps):
    """The wish in which a twin of a place, behind all others, is the goal of these steps to the place instead."""
    rows = wish.machine.rows()
    twin = len(rows)
    check_place(place, twin)
    _check_steps(wish.machine, place, steps)
    for start, letter in steps:
        rows[start][wish.letters.index(letter)] = twin
    rows.append(list(rows[place]))
    _check_come_to(rows)
    if len(rows) > Wish.MOST_PLACES:
        raise TooMany("places", Wish.MOST_PLACES)
    return _wish_over(wish, wish.letters, rows, _standing(len(rows), twin, place))


def redirected(wish, place, letter, goal):
    """The wish with this goal of the step from this place by this letter; rings that were not there are bad."""
    rows = wish.machine.rows()
    check_place(place, len(rows))
    check_letter(letter, wish.letters)
    check_place(goal, len(rows))
    rows[place][wish.letters.index(letter)] = goal
    _check_come_to(rows)
    return Wish(Machine(wish.letters, rows), wish.good())


def _wish_over(wish, letters, rows, old):
    """The wish of these rows whose rings have the kinds that they have in this wish, where place n is old[n]."""
    machine = Machine(letters, rows)
    return Wish(machine, [ring for ring in rings(machine) if wish[_image(ring, old)]])


def _standing(many, place, instead):
    """The list of so many places, with another place instead of one of them."""
    return [instead if near == place else near for near in range(many)]


def _image(ring, places):
    """The tuple of what stands in the list of places for the places of a ring, rising."""
    return tuple(sorted({places[place] for place in ring}))


def _check_steps(machine, place, value):
    """Raises InvalidSteps unless the value is a list of different steps to this place."""
    if not is_list(value):
        raise InvalidSteps(None)
    seen = {}
    for position, step in enumerate(value):
        if not _is_step(machine, place, step) or step in seen:
            raise InvalidSteps(position)
        seen[step] = True


def _is_step(machine, place, value):
    """Whether any value is a tuple of a place and a letter by which it leads to this place."""
    if not isinstance(value, tuple) or len(value) != 2:
        return False
    start, letter = value
    if not is_place(start, len(machine)) or not is_letter_of(letter, machine.letters):
        return False
    return machine.goal(start, letter) == place


def _check_come_to(rows):
    """Raises NotComeTo with the first place that is not come to from place 0."""
    met = places_from(rows, 0)
    lost = [place for place in range(len(rows)) if place not in met]
    if lost:
        raise NotComeTo(lost[0])
