"""Rings of a machine: the sets of places in which one can go round for ever."""

from ringdepth.basics import is_integer
from ringdepth.checks import first_wrong_place, is_list, is_text_over
from ringdepth.errors import InvalidPlace, InvalidPlaces, InvalidRing, InvalidRings, TooMany
from ringdepth.graphs import all_rings, backward, greatest_rings, is_round, path, places_from, round_text
from ringdepth.words import Word

# Above it a machine may have more rings than a list of them should hold.
MOST_PLACES_LISTED = 6


def rings(machine):
    """The sorted list of all rings of a machine of few places."""
    _check_few(machine)
    return all_rings(machine.rows())


def rings_within(machine, ring):
    """The sorted list of the rings with no other places than this one, itself among them."""
    check_ring(machine, ring)
    _check_few(machine)
    return [near for near in all_rings(machine.rows()) if lies_in(near, ring)]


def is_ring(machine, value):
    """Whether any value is a ring of the machine."""
    if not isinstance(value, tuple) or value == () or first_wrong_place(value, len(machine)) is not None:
        return False
    rows = machine.rows()
    return list(value) == sorted(value) and is_round(rows, backward(rows), value)


def lies_in(one, other):
    """Whether one ring has no other places than the other one."""
    return all([place in other for place in one])


def parts(machine):
    """The sorted list of the parts: the rings that lie in no greater one."""
    return greatest_rings(machine.rows(), list(range(len(machine))))


def passed(machine):
    """The sorted list of the places in no ring."""
    met = [place for part in parts(machine) for place in part]
    return [place for place in range(len(machine)) if place not in met]


def inner_parts(machine, places):
    """The sorted list of the greatest ones of the rings with no other places than these."""
    if not is_list(places):
        raise InvalidPlaces(None)
    wrong = first_wrong_place(places, len(machine))
    if wrong is not None:
        raise InvalidPlaces(wrong)
    return greatest_rings(machine.rows(), places)


def joined_ring(machine, one, other):
    """The ring of all places of two rings; None if they have no common place."""
    check_ring(machine, one)
    check_ring(machine, other)
    return together(one, other)


def together(one, other):
    """The ring of all places of two rings of one machine; None if they have no common place."""
    if not [place for place in one if place in other]:
        return None
    return tuple(sorted(set(one + other)))


def leads(machine, one, other):
    """Whether some text, perhaps the empty one, leads from a place of one ring to a place of the other."""
    check_ring(machine, one)
    check_ring(machine, other)
    # All places of a ring lead to one another, so one of each is enough.
    return other[0] in places_from(machine.rows(), one[0])


def lap(machine, ring, place):
    """A lap of the ring at this place of it."""
    check_ring(machine, ring)
    _check_place_of(ring, place)
    return round_text(machine.rows(), machine.letters, ring, place)


def is_lap(machine, ring, place, value):
    """Whether any value is a lap of the ring at this place of it."""
    check_ring(machine, ring)
    _check_place_of(ring, place)
    if not is_text_over(value, machine.letters) or value == "":
        return False
    places = path(machine.rows(), machine.letters, place, value)
    return places[-1] == place and sorted(set(places)) == list(ring)


def word_of(machine, ring):
    """A Word that meets just the places of the ring."""
    check_ring(machine, ring)
    return Word(machine.first_text(ring[0]), round_text(machine.rows(), machine.letters, ring, ring[0]))


def check_ring(machine, value):
    """Raises InvalidRing unless the value is a ring of the machine."""
    if not is_ring(machine, value):
        raise InvalidRing(value)


def first_wrong_ring(machine, values):
    """The position of the first value that is no ring of the machine, or stands ahead; None if none is wrong."""
    seen = {}
    for position, value in enumerate(values):
        if not is_ring(machine, value) or value in seen:
            return position
        seen[value] = True
    return None


def check_rings(machine, values):
    """Raises InvalidRings unless the values are a list of different rings of the machine."""
    if not is_list(values):
        raise InvalidRings(None)
    wrong = first_wrong_ring(machine, values)
    if wrong is not None:
        raise InvalidRings(wrong)


def _check_place_of(ring, value):
    """Raises InvalidPlace unless the value is a place of the ring."""
    if not is_integer(value) or value not in ring:
        raise InvalidPlace(value)


def _check_few(machine):
    """Raises TooMany if the machine has more places than rings are listed for."""
    if len(machine) > MOST_PLACES_LISTED:
        raise TooMany("places", MOST_PLACES_LISTED)
