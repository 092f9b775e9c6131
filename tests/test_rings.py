"""Rings, parts and laps, against trials of all sets of places."""

from random import Random

from ringdepth.errors import InvalidPlace, InvalidPlaces, InvalidRing, TooMany
from ringdepth.machines import Machine
from ringdepth.rings import (
    inner_parts, is_lap, is_ring, joined_ring, lap, leads, parts, passed, rings, rings_within, word_of,
)
from ringdepth.words import Word
from tests import plain
from tests.cases import LAST, Case, small_rows, some_machines, wide_rows

SMALL = [Machine(letters, rows) for letters, places in [("a", 1), ("a", 2), ("a", 3), ("a", 4), ("bc", 1), ("bc", 2)]
         for rows in small_rows(places, letters)]
SIX = SMALL + some_machines(Random(31), 60, 6)
EIGHT = SIX + some_machines(Random(37), 40, 8)


def circle(places, letters="a"):
    """A machine of one circle, against the numbers, so that each place leads to the one ahead of it."""
    return Machine(letters, [[(place - 1) % places] * len(letters) for place in range(places)])


def long_way(places):
    """A machine in which each step by b leads back to place 0, and only steps by a lead on."""
    return Machine("ab", [[(place + 1) % places, 0] for place in range(places)])


def bush(stem, leaves):
    """A stem of places, behind it a binary tree; all its leaves lead back to place 0, so laps are long."""
    rows = [[place + 1, place + 1] for place in range(stem)]
    many = stem + 2 * leaves - 1
    for place in range(stem, many):
        child = stem + 2 * (place - stem) + 1
        rows.append([child, child + 1] if child + 1 < many else [0, 0])
    return Machine("ab", rows)


def wide_machines():
    """Machines of many places: random ones, circles, and such as have long laps."""
    random = Random(41)
    found = [Machine(letters, wide_rows(random, places, letters))
             for places in (9, 20, 120) for letters in ("a", "ab", "abc")]
    # Steps that lead on alone make many parts.
    for places in (30, 120):
        rows = [[min(place + 1 + random.randrange(3), places - 1), max(place - random.randrange(4), 0)]
                if place % 5 else [min(place + 1, places - 1), min(place + 1, places - 1)] for place in range(places)]
        found.append(Machine.come_to("ab", rows))
    return found + [circle(120), circle(119, "abc"), long_way(120), bush(60, 30)]


def some_tuples(machine):
    """Tuples of places and of other values, which may be rings or not."""
    many = len(machine)
    found = [(one,) for one in range(-1, many + 2)]
    found += [(one, other) for one in range(-1, many + 1) for other in range(-1, many + 1)]
    found += [tuple(range(many)), tuple(range(many))[::-1], tuple(range(many + 1)), tuple(range(1, many)), (0,) * 5]
    found += [(True,), (False,), (0, True), (False, 1), ("0",), (None,), ((0,),), ([0],), ({},), (0, None)]
    return found


def check_lap(case, machine, ring, place, text):
    """The text is a lap of the ring at this place, by walking it."""
    walked = [plain.goes(machine.rows(), machine.letters, place, text[:many]) for many in range(len(text) + 1)]
    case.assertIs(type(text), str)
    case.assertGreaterEqual(len(text), 1)
    case.assertLessEqual(len(text), 8000)
    case.assertEqual(walked[-1], place)
    case.assertEqual(tuple(sorted(set(walked))), ring)


class RingsTest(Case):

    def test_rings(self):
        for machine in SIX:
            self.gives(plain.rings(machine.rows()), rings, machine=machine)

    def test_rings_within(self):
        for machine in SIX:
            found = plain.rings(machine.rows())
            for ring in found:
                expected = [other for other in found if set(other) <= set(ring)]
                self.gives(expected, rings_within, machine=machine, ring=ring)

    def test_six_places_and_seven(self):
        self.gives([(0, 1, 2, 3, 4, 5)], rings, machine=circle(6))
        self.gives([(0, 1, 2, 3, 4, 5)], rings_within, machine=circle(6), ring=(0, 1, 2, 3, 4, 5))
        kept = {"what": "places", "limit": 6}
        for machine in [circle(7), long_way(7), long_way(120)]:
            self.fails_named(TooMany, kept, rings, machine=machine)
            self.fails_named(TooMany, kept, rings_within, machine=machine, ring=tuple(range(len(machine))))
        self.fails_named(TooMany, kept, rings_within, machine=long_way(7), ring=(0,))

    def test_wrong_ring_ahead_of_too_many(self):
        for value in [(6, 0), (1,), [0], None, (True,)]:
            self.fails_named(InvalidRing, {"value": value}, rings_within, machine=long_way(7), ring=value)

    def test_is_ring(self):
        for machine in EIGHT:
            found = plain.rings(machine.rows())
            for ring in found:
                self.gives(True, is_ring, machine=machine, value=ring)
                self.gives(len(ring) == 1, is_ring, machine=machine, value=ring[::-1])
                self.gives(False, is_ring, machine=machine, value=list(ring))
            for value in some_tuples(machine):
                right = all(type(place) is int for place in value) and value in found
                self.gives(right, is_ring, machine=machine, value=value)

    def test_is_ring_for_any_value(self):
        for value in plain.odd_values() + [Word("", "a"), LAST, "01", tuple(range(1000)), (0, 1) * 400]:
            right = isinstance(value, tuple) and all(type(place) is int for place in value)
            self.gives(right and value in [(0,), (1,), (0, 1)], is_ring, machine=LAST, value=value)

    def test_single_places(self):
        machine = Machine("ab", [[1, 1], [1, 2], [1, 1]])
        self.assertEqual([is_ring(machine, (place,)) for place in range(3)], [False, True, False])
        self.assertEqual(rings(machine), [(1,), (1, 2)])

    def test_is_ring_of_many_places(self):
        for machine in wide_machines():
            rows = machine.rows()
            for part in parts(machine):
                self.assertIs(is_ring(machine, part), True)
                self.assertIs(plain.is_ring(rows, part), True)
            random = Random(43)
            for _ in range(20):
                value = tuple(sorted(random.sample(range(len(rows)), 1 + random.randrange(4))))
                self.assertIs(is_ring(machine, value), plain.is_ring(rows, value))
        whole = tuple(range(120))
        self.assertIs(is_ring(circle(120), whole), True)
        self.assertIs(is_ring(circle(120), whole[:-1]), False)
        self.assertIs(is_ring(circle(120), whole[1:]), False)
        self.assertIs(is_ring(long_way(120), whole[:77]), True)
        self.assertIs(is_ring(long_way(120), whole[1:]), False)


class PartsTest(Case):

    def test_parts(self):
        for machine in EIGHT:
            self.gives(plain.greatest(plain.rings(machine.rows())), parts, machine=machine)

    def test_passed(self):
        for machine in EIGHT:
            met = {place for ring in plain.rings(machine.rows()) for place in ring}
            self.gives([place for place in range(len(machine)) if place not in met], passed, machine=machine)

    def test_parts_and_passed_of_many_places(self):
        for machine in wide_machines():
            rows = machine.rows()
            ahead = [plain.within(rows, set(range(len(rows))), place) for place in range(len(rows))]
            expected = {tuple(near for near in sorted(ahead[place]) if place in ahead[near])
                        for place in range(len(rows)) if place in ahead[place]}
            self.gives(sorted(expected), parts, machine=machine)
            self.gives([place for place in range(len(rows)) if place not in ahead[place]], passed, machine=machine)

    def test_inner_parts(self):
        random = Random(47)
        for machine in EIGHT:
            found = plain.rings(machine.rows())
            for _ in range(6):
                places = random.sample(range(len(machine)), random.randrange(len(machine) + 1))
                expected = plain.greatest([ring for ring in found if set(ring) <= set(places)])
                self.gives(expected, inner_parts, machine=machine, places=places)
                self.gives(expected, inner_parts, machine=machine, places=tuple(places))
            self.gives(parts(machine), inner_parts, machine=machine, places=list(range(len(machine))))
            self.gives([], inner_parts, machine=machine, places=[])

    def test_inner_parts_of_many_places(self):
        random = Random(53)
        for machine in wide_machines():
            rows = machine.rows()
            places = random.sample(range(len(rows)), len(rows) * 3 // 4)
            ahead = {place: plain.within(rows, set(places), place) for place in places}
            expected = {tuple(near for near in sorted(ahead[place]) if place in ahead[near])
                        for place in places if place in ahead[place]}
            self.gives(sorted(expected), inner_parts, machine=machine, places=places)

    def test_wrong_places(self):
        machine = long_way(3)
        for value in plain.odd_values():
            if not isinstance(value, (list, tuple)):
                self.fails_named(InvalidPlaces, {"position": None}, inner_parts, machine=machine, places=value)
            if not (type(value) is int and 0 <= value < 3):
                for places in ([value], (value, 0, 1, 2)):
                    self.fails_named(InvalidPlaces, {"position": 0}, inner_parts, machine=machine, places=places)
                self.fails_named(InvalidPlaces, {"position": 2}, inner_parts, machine=machine, places=[2, 0, value, 0])

    def test_places_that_stand_ahead(self):
        machine = long_way(3)
        for places, position in [([0, 0], 1), ([2, 0, 1, 0], 3), ([2, 2, 0, 0, 9], 1), ([2, 1, 9, 2], 2), ([3], 0),
                                 ([1, True], 1), ([0, False], 1), ([True, 1], 0)]:
            self.fails_named(InvalidPlaces, {"position": position}, inner_parts, machine=machine, places=places)


class TwoRingsTest(Case):

    def test_joined_ring(self):
        for machine in SIX:
            found = plain.rings(machine.rows())
            for one in found:
                for other in found:
                    expected = tuple(sorted(set(one) | set(other))) if set(one) & set(other) else None
                    self.gives(expected, joined_ring, machine=machine, one=one, other=other)
                    self.assertTrue(expected is None or expected in found)

    def test_leads(self):
        for machine in SIX:
            rows = machine.rows()
            found = plain.rings(rows)
            for one in found:
                ahead = set()
                for place in one:
                    ahead |= plain.come_to(rows, place)
                for other in found:
                    self.gives(bool(ahead & set(other)), leads, machine=machine, one=one, other=other)

    def test_many_places(self):
        for machine in wide_machines():
            rows = machine.rows()
            found = parts(machine)
            for one in found[:8]:
                for other in found[-8:]:
                    self.assertEqual(joined_ring(machine, one, other), one if one == other else None)
                    expected = other[0] in plain.come_to(rows, one[0])
                    self.assertIs(leads(machine, one, other), expected)
        self.assertEqual(joined_ring(long_way(120), (0,), tuple(range(100))), tuple(range(100)))

    def test_rings_that_are_none(self):
        machine = Machine("ab", [[1, 0], [2, 1], [0, 2]])
        wrong = [value for value in plain.odd_values() + [(0, 2), (2, 1, 0), [0, 1, 2], (3,), (0, 1, 2, 3)]
                 if not (isinstance(value, tuple) and value in [(0,), (1,), (2,), (0, 1, 2)] and
                         all(type(place) is int for place in value))]
        for value in wrong:
            kept = {"value": value}
            for asked in (joined_ring, leads):
                self.fails_named(InvalidRing, kept, asked, machine=machine, one=value, other=(0,))
                self.fails_named(InvalidRing, kept, asked, machine=machine, one=(0, 1, 2), other=value)
                self.fails_named(InvalidRing, kept, asked, machine=machine, one=value, other=None)
            self.fails_named(InvalidRing, kept, rings_within, machine=machine, ring=value)
            self.fails_named(InvalidRing, kept, lap, machine=machine, ring=value, place=None)
            self.fails_named(InvalidRing, kept, is_lap, machine=machine, ring=value, place=None, value=None)
            self.fails_named(InvalidRing, kept, word_of, machine=machine, ring=value)
        for one in [(0,), (1,), (0, 1, 2)]:
            self.assertEqual(joined_ring(machine, one, (0, 1, 2)), (0, 1, 2))


class LapsTest(Case):

    def test_lap(self):
        for machine in SIX:
            for ring in plain.rings(machine.rows()):
                for place in ring:
                    text = lap(machine, ring, place)
                    check_lap(self, machine, ring, place, text)
                    self.gives(text, lap, machine=machine, ring=ring, place=place)
                    self.gives(True, is_lap, machine=machine, ring=ring, place=place, value=text)

    def test_laps_of_many_places(self):
        for machine in wide_machines():
            for ring in parts(machine):
                for place in {ring[0], ring[len(ring) // 2], ring[-1]}:
                    text = lap(machine, ring, place)
                    check_lap(self, machine, ring, place, text)
                    self.assertIs(is_lap(machine, ring, place, text), True)
                word = word_of(machine, ring)
                self.assertEqual(plain.met(machine.rows(), machine.letters, word.begin, word.lap), ring)
        self.assertGreater(len(lap(bush(60, 30), tuple(range(119)), 0)), 1500)

    def test_is_lap_by_walking(self):
        for machine in SIX[::3]:
            rows = machine.rows()
            for ring in plain.rings(rows):
                for text in plain.texts(machine.letters, 4):
                    for place in ring:
                        walked = {plain.goes(rows, machine.letters, place, text[:many])
                                  for many in range(len(text) + 1)}
                        ends = plain.goes(rows, machine.letters, place, text)
                        right = text != "" and ends == place and walked == set(ring)
                        self.assertIs(is_lap(machine, ring, place, text), right)

    def test_is_lap_for_any_value(self):
        for value in plain.odd_values() + ["aa", "ac", "c", "abc", "baa\n", "BA", ["b", "a"], ("b", "a"), b"ba"]:
            right = isinstance(value, str) and value in ["ba"]
            self.gives(right, is_lap, machine=LAST, ring=(0, 1), place=0, value=value)
            right = isinstance(value, str) and value in ["a", "aa"]
            self.gives(right, is_lap, machine=LAST, ring=(0,), place=0, value=value)
        self.assertIs(is_lap(LAST, (0, 1), 0, "b" + "a" * 7999), True)
        self.assertIs(is_lap(LAST, (0, 1), 0, "a" * 8000), False)

    def test_empty_lap_is_none(self):
        self.assertIs(is_lap(LAST, (0,), 0, ""), False)
        self.assertIs(is_lap(Machine("a", [[0]]), (0,), 0, ""), False)

    def test_places_that_are_not_in_the_ring(self):
        machine = Machine("ab", [[0, 1], [2, 1], [1, 2]])
        for value in plain.odd_values() + [3, -2, "1", (1,), [1]]:
            kept = {"value": value}
            if not (type(value) is int and value in [1, 2]):
                self.fails_named(InvalidPlace, kept, lap, machine=machine, ring=(1, 2), place=value)
                self.fails_named(InvalidPlace, kept, is_lap, machine=machine, ring=(1, 2), place=value, value="ab")
                self.fails_named(InvalidPlace, kept, is_lap, machine=machine, ring=(1, 2), place=value, value=None)
            if not (type(value) is int and value == 0):
                self.fails_named(InvalidPlace, kept, lap, machine=machine, ring=(0,), place=value)

    def test_word_of(self):
        for machine in SIX:
            for ring in plain.rings(machine.rows()):
                word = word_of(machine, ring)
                self.assertIs(type(word), Word)
                self.assertEqual(plain.met(machine.rows(), machine.letters, word.begin, word.lap), ring)
                self.assertEqual(machine.met(word), ring)
                self.assertEqual(word_of(machine=machine, ring=ring), word)

    def test_met_sets_are_just_the_rings(self):
        for machine in SIX[::2]:
            found = plain.rings(machine.rows())
            words = plain.words(machine.letters, 2, 4)
            for begin, turned in words:
                self.assertIn(machine.met(Word(begin, turned)), found)
            self.assertEqual(sorted(machine.met(word_of(machine, ring)) for ring in found), found)


class UnchangedTest(Case):

    def test_lists_changed_behind(self):
        machine = long_way(4)
        places = [3, 1, 0]
        found = [rings(machine), rings_within(machine, (0, 1)), parts(machine), inner_parts(machine, places),
                 passed(machine)]
        kept = [list(one) for one in found]
        for one in found:
            one.append(None)
        self.assertEqual([rings(machine), rings_within(machine, (0, 1)), parts(machine),
                          inner_parts(machine, places), passed(machine)], kept)
        self.assertEqual(places, [3, 1, 0])
        self.assertEqual(machine, long_way(4))

    def test_errors_change_nothing(self):
        machine = long_way(4)
        for call in [lambda: lap(machine, (1,), 1), lambda: inner_parts(machine, [4]), lambda: rings(long_way(7))]:
            self.assertRaises((InvalidRing, InvalidPlaces, TooMany), call)
        self.assertEqual(machine, long_way(4))
