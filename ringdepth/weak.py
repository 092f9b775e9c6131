"""Weak wishes: no ring lies in one of the other kind, so all rings of a part have one kind."""

from ringdepth.checks import is_list
from ringdepth.errors import NotWeak
from ringdepth.graphs import merged
from ringdepth.machines import Machine
from ringdepth.nests import kinds
from ringdepth.rings import is_ring, leads, parts, rings, word_of
from ringdepth.same import classes
from ringdepth.turns import longest_by_turns
from ringdepth.wishes import Wish


def passes(wish):
    """The tuple of the numbers of parts of the longest rows that begin with a good part, and with a bad one."""
    return len(row(wish, True)), len(row(wish, False))


def row(wish, is_good):
    """A longest row that begins with a part of this kind; the empty list if there is none."""
    _check_weak(wish)
    machine = wish.machine
    told = kinds(wish)
    behind = {part: [other for other in told if other != part and leads(machine, part, other)] for part in told}
    return longest_by_turns(told, behind, is_good)


def is_row(wish, value):
    """Whether any value is a row."""
    _check_weak(wish)
    machine = wish.machine
    if not is_list(value) or len(value) == 0 or not all([is_ring(machine, ring) for ring in value]):
        return False
    told = kinds(wish)
    if not all([ring in told for ring in value]):
        return False
    return all([told[one] != told[other] and leads(machine, one, other) for one, other in zip(value, value[1:])])


def least(wish):
    """The Wish of the least machine of the same wish."""
    _check_weak(wish)
    rows = wish.machine.rows()
    kin = {place: number for number, places in enumerate(classes(wish)) for place in places}
    found, _ = merged(rows, [kin[place] for place in range(len(rows))])
    machine = Machine(wish.letters, found)
    return Wish(machine, [ring for ring in rings(machine) if wish(word_of(machine, ring))])


def is_least(wish):
    """Whether no machine of the same wish has fewer places."""
    _check_weak(wish)
    return len(classes(wish)) == len(wish.machine)


def _check_weak(wish):
    """Raises NotWeak if some part has rings of both kinds, with the least tuple of a good and a bad one."""
    found = parts(wish.machine)
    for good in wish.good():
        for bad in wish.bad():
            if [part for part in found if good[0] in part and bad[0] in part]:
                raise NotWeak(good, bad)
