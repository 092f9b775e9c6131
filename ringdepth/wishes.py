"""Wishes: a machine, and which of its rings are good."""

from ringdepth.basics import is_integer
from ringdepth.checks import check_place, first_wrong_place, is_list
from ringdepth.errors import InvalidLots, InvalidMachine, InvalidRing, InvalidWish, TooMany
from ringdepth.graphs import all_rings, places_from
from ringdepth.machines import Machine, paired
from ringdepth.pairing import first_joint, shadow
from ringdepth.rings import check_rings

# For which kinds in the one wish and in the other a ring of the paired machine is good.
IN_BOTH = ((True, True),)
IN_EITHER = ((True, True), (True, False), (False, True))
IN_ONE_ALONE = ((True, False),)


class Wish:
    """A wish: it is granted to the endless words that meet a good ring of its machine."""

    MOST_PLACES = 6

    def __init__(self, machine, good):
        if not isinstance(machine, Machine):
            raise InvalidMachine(machine)
        _check_lots(good, len(machine))
        if len(machine) > Wish.MOST_PLACES:
            raise TooMany("places", Wish.MOST_PLACES)
        lots = [tuple(sorted(lot)) for lot in good]
        self._machine = machine
        # From each ring, sorted, to whether it is good; lots that are no rings fall away here.
        self._kinds = {ring: ring in lots for ring in all_rings(machine.rows())}

    @property
    def machine(self):
        """Its machine."""
        return self._machine

    @property
    def letters(self):
        """The letters of its machine."""
        return self._machine.letters

    def __len__(self):
        return len(self._kinds)

    def __getitem__(self, at):
        if not self._has(at):
            raise InvalidRing(at)
        return self._kinds[at]

    def __iter__(self):
        raise TypeError("a wish is not iterated over")

    def __contains__(self, value):
        return self._has(value) and self._kinds[value]

    def __call__(self, word):
        return self._kinds[self._machine.met(word)]

    def __eq__(self, other):
        return isinstance(other, Wish) and self._machine == other._machine and self._kinds == other._kinds

    def __repr__(self):
        return f"Wish({self._machine!r}, {self.good()!r})"

    def __and__(self, other):
        return _combined(self, other, IN_BOTH)

    def __or__(self, other):
        return _combined(self, other, IN_EITHER)

    def __sub__(self, other):
        return _combined(self, other, IN_ONE_ALONE)

    def __invert__(self):
        return Wish(self._machine, self.bad())

    def good(self):
        """The sorted list of the good rings."""
        return [ring for ring in self._kinds if self._kinds[ring]]

    def bad(self):
        """The sorted list of the bad rings."""
        return [ring for ring in self._kinds if not self._kinds[ring]]

    def is_within(self, other):
        """Whether each word that is granted this wish is granted the other one."""
        check_wish(other)
        return first_joint(self._machine, other.machine, self.good(), other.bad()) is None

    def at(self, place):
        """The wish begun at this place."""
        check_place(place, len(self._machine))
        order = places_from(self._machine.rows(), place)
        numbers = {old: number for number, old in enumerate(order)}
        lots = [[numbers[old] for old in ring] for ring in self.good() if ring[0] in numbers]
        return Wish(self._machine.at(place), lots)

    def turned(self, rings):
        """The wish with these rings of other kinds than they were."""
        check_rings(self._machine, rings)
        return Wish(self._machine, [ring for ring in self._kinds if self._kinds[ring] != (ring in rings)])

    def _has(self, value):
        """Whether any value is a ring of its machine."""
        return isinstance(value, tuple) and all([is_integer(place) for place in value]) and value in self._kinds


def ring_kinds(wish):
    """The dict from all rings of the wish, sorted, to whether they are good."""
    return {ring: wish[ring] for ring in sorted(wish.good() + wish.bad())}


def check_wish(value):
    """Raises InvalidWish unless the value is a Wish."""
    if not isinstance(value, Wish):
        raise InvalidWish(value)


def _check_lots(value, many):
    """Raises InvalidLots unless the value is a list of lots of so many places."""
    if not is_list(value):
        raise InvalidLots(None)
    for position, lot in enumerate(value):
        if not is_list(lot) or first_wrong_place(lot, many) is not None:
            raise InvalidLots(position)


def _combined(one, other, granted):
    """The wish on the paired machine whose rings are good where their kinds in both wishes are among granted."""
    check_wish(other)
    machine, pairs = paired(one.machine, other.machine)
    # Told ahead of the rings, because all sets of places of a greater machine are not to be tried.
    if len(machine) > Wish.MOST_PLACES:
        raise TooMany("places", Wish.MOST_PLACES)
    lots = []
    for ring in all_rings(machine.rows()):
        kinds = (one[shadow(ring, pairs, 0)], other[shadow(ring, pairs, 1)])
        if kinds in granted:
            lots.append(ring)
    return Wish(machine, lots)
