"""Chains: rings within one another, good and bad by turns; and the depth that the longest ones tell."""

from ringdepth.checks import is_list, is_text_over
from ringdepth.errors import InvalidChain
from ringdepth.graphs import path, round_text
from ringdepth.rings import is_ring, lies_in
from ringdepth.turns import longest_by_turns
from ringdepth.wishes import ring_kinds


def depth(wish):
    """The tuple (g, b): the numbers of rings of the longest good chain and of the longest bad one."""
    return len(chain(wish, True)), len(chain(wish, False))


def chain(wish, is_good):
    """A longest chain of this kind; the empty list if there is none."""
    kinds = ring_kinds(wish)
    greater = {ring: [other for other in kinds if len(other) > len(ring) and lies_in(ring, other)] for ring in kinds}
    return longest_by_turns(kinds, greater, is_good)


def is_chain(wish, value):
    """Whether any value is a chain of the wish."""
    if not is_list(value) or len(value) == 0 or not all([is_ring(wish.machine, ring) for ring in value]):
        return False
    # Rings of unlike kinds are never one ring, so the greater one has more places.
    return all([wish[one] != wish[other] and lies_in(one, other) for one, other in zip(value, value[1:])])


def least_ranks(wish):
    """The number of ranks that a ranked machine of the same words needs."""
    good, bad = depth(wish)
    return good + 1 if good == bad else max(good, bad)


def is_again(wish):
    """Whether no good ring lies in a bad one."""
    return depth(wish)[0] <= 1


def is_at_last(wish):
    """Whether no bad ring lies in a good one."""
    return depth(wish)[1] <= 1


def is_weak(wish):
    """Whether no ring lies in one of the other kind."""
    return max(depth(wish)) <= 1


def shown(wish, chain):
    """A tuple (text, laps) that shows a chain of just these rings."""
    if not is_chain(wish, chain):
        raise InvalidChain(chain)
    machine = wish.machine
    # Each place of the least ring is in all of them.
    place = chain[0][0]
    laps = [round_text(machine.rows(), machine.letters, ring, place) for ring in chain]
    return machine.first_text(place), laps


def is_shown(wish, value):
    """Whether any value is a tuple (text, laps) that shows some chain."""
    if not isinstance(value, tuple) or len(value) != 2:
        return False
    text, laps = value
    if not is_text_over(text, wish.letters) or not is_list(laps):
        return False
    place = wish.machine.goes(0, text)
    rings = [_gone_round(wish.machine, place, lap) for lap in laps]
    return is_chain(wish, rings)


def _gone_round(machine, place, value):
    """The ring through whose places a text goes from this place round to it; None if a value is no such text."""
    if not is_text_over(value, machine.letters) or value == "":
        return None
    places = path(machine.rows(), machine.letters, place, value)
    return tuple(sorted(set(places))) if places[-1] == place else None
