"""Whether wishes are the same, and words that part them."""

from ringdepth.checks import check_same_letters
from ringdepth.graphs import all_rings
from ringdepth.machines import paired
from ringdepth.pairing import first_joint, ring_over
from ringdepth.rings import word_of
from ringdepth.words import is_word_over


def joint(one, other):
    """The sorted list of the tuples (ring of one, ring of other) of joint rings."""
    machine, pairs = paired(one.machine, other.machine)
    rows = machine.rows()
    ones = all_rings(one.machine.rows())
    others = all_rings(other.machine.rows())
    return [(first, second) for first in ones for second in others
            if ring_over(rows, pairs, first, second) is not None]


def is_same(one, other):
    """Whether both wishes are granted to the same endless words."""
    return one.is_within(other) and other.is_within(one)


def parting(one, other):
    """A Word that is granted just one of both wishes; None if they are the same."""
    word = beyond(one, other)
    if word is None:
        word = beyond(other, one)
    return word


def is_parting(one, other, value):
    """Whether any value is a Word that is granted just one of both wishes."""
    check_same_letters(one, other)
    return is_word_over(value, one.letters) and one(value) != other(value)


def beyond(one, other):
    """A Word that is granted one and not other; None if one is within other."""
    found = first_joint(one.machine, other.machine, one.good(), other.bad())
    if found is None:
        return None
    machine, ring = found
    return word_of(machine, ring)


def classes(wish):
    """The sorted list of the sorted lists of alike places."""
    begun = [wish.at(place) for place in range(len(wish.machine))]
    found = []
    for place, mine in enumerate(begun):
        alike = [kin for kin in found if is_same(begun[kin[0]], mine)]
        if alike:
            alike[0].append(place)
        else:
            found.append([place])
    return found


def are_alike(wish, place, second):
    """Whether the wishes begun at these two places are the same."""
    return is_same(wish.at(place), wish.at(second))


def parting_at(wish, place, second):
    """A Word that parts the wishes begun at these two places; None if they are alike."""
    return parting(wish.at(place), wish.at(second))
