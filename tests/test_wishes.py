"""Wishes and what is made of them, against trials of all sets of places and of many words."""

from random import Random

from ringdepth.errors import (
    InvalidLots, InvalidMachine, InvalidPlace, InvalidRing, InvalidRings, InvalidWish, InvalidWord, OtherLetters,
    TooMany,
)
from ringdepth.machines import Machine, paired
from ringdepth.wishes import Wish
from ringdepth.words import Word
from tests import plain
from tests.cases import LAST, Case, granted, small_rows, some_machines, some_pairs, some_wishes

ONCE = Machine("ab", [[1, 0], [1, 1]])


def circle(places, letters="a"):
    """A machine of one circle."""
    return Machine(letters, [[(place + 1) % places] * len(letters) for place in range(places)])


class MakingTest(Case):

    def test_limit(self):
        self.assertEqual(Wish.MOST_PLACES, 6)
        self.assertEqual(Wish(LAST, []).MOST_PLACES, 6)

    def test_good_and_bad(self):
        random = Random(61)
        for machine in some_machines(random, 60, 6):
            found = plain.rings(machine.rows())
            good = [ring for ring in found if random.randrange(2)]
            bad = [ring for ring in found if ring not in good]
            lots = [random.sample(ring, len(ring)) for ring in good]
            random.shuffle(lots)
            for told in (good, lots, tuple(good), [tuple(lot) for lot in lots], lots + lots[:2] + good):
                wish = Wish(machine, told)
                self.gives(good, wish.good)
                self.gives(bad, wish.bad)
                self.assertEqual(len(wish), len(found))
                self.assertEqual(wish.machine, machine)
                self.assertEqual(wish.letters, machine.letters)
                self.assertEqual(repr(wish), f"Wish({machine!r}, {good!r})")
                self.assertTrue(wish == Wish(good=good, machine=machine))
                for ring in found:
                    self.assertIs(wish[ring], ring in good)
                    self.assertIs(ring in wish, ring in good)

    def test_lots_that_are_no_rings_are_not_kept(self):
        machine = Machine("ab", [[1, 1], [2, 1], [2, 0]])
        self.assertEqual(plain.rings(machine.rows()), [(0, 1, 2), (1,), (2,)])
        for lots in [[[]], [[0]], [[1, 2]], [[0, 1]], [[], [0], [2, 1], [0, 2], ()], []]:
            wish = Wish(machine, lots)
            self.assertEqual((wish.good(), len(wish)), ([], 3))
            self.assertEqual(wish, Wish(machine, []))
        wish = Wish(machine, [[2, 0, 1], [], [1], [0], [1], [1, 2, 0]])
        self.assertEqual((wish.good(), wish.bad()), ([(0, 1, 2), (1,)], [(2,)]))

    def test_machine_that_is_none(self):
        for value in plain.odd_values() + [Word("", "a"), Wish(LAST, []), [[0, 1], [0, 1]]]:
            for good in [[], None, [[9]]]:
                self.fails_named(InvalidMachine, {"value": value}, Wish, machine=value, good=good)

    def test_lots_that_are_no_list(self):
        for value in plain.odd_values():
            if not isinstance(value, (list, tuple)):
                self.fails_named(InvalidLots, {"position": None}, Wish, machine=LAST, good=value)
                self.fails_named(InvalidLots, {"position": None}, Wish, machine=circle(7), good=value)

    def test_each_lot(self):
        for value in plain.odd_values():
            is_lot = isinstance(value, (list, tuple)) and all(
                type(place) is int and place in (0, 1) for place in value) and len(value) == len(set(value))
            for position in range(3):
                lots = [[0], [1, 0], []]
                lots[position] = value
                if is_lot:
                    self.assertEqual(Wish(LAST, lots).machine, LAST)
                else:
                    self.fails_named(InvalidLots, {"position": position}, Wish, machine=LAST, good=lots)

    def test_each_place_of_a_lot(self):
        for value in plain.odd_values() + [2, "0"]:
            if not (type(value) is int and 0 <= value < 2):
                self.fails_named(InvalidLots, {"position": 1}, Wish, machine=LAST, good=[[0], [0, value], None])
                self.fails_named(InvalidLots, {"position": 0}, Wish, machine=LAST, good=[(value,), [0]])

    def test_places_twice_in_a_lot(self):
        for lots, position in [([[0, 0]], 0), ([[0, 1], [1, 0, 1]], 1), ([[0], [0], [1, 1], [5]], 2),
                               ([[0, False]], 0), ([[1, True]], 0), ([[0], [2]], 1), ([[0, 1, 2]], 0), ([[-1]], 0)]:
            self.fails_named(InvalidLots, {"position": position}, Wish, machine=LAST, good=lots)

    def test_six_places_and_seven(self):
        self.assertEqual(Wish(circle(6), [[5, 4, 3, 2, 1, 0]]).good(), [(0, 1, 2, 3, 4, 5)])
        kept = {"what": "places", "limit": 6}
        self.fails_named(TooMany, kept, Wish, machine=circle(7), good=[])
        self.fails_named(TooMany, kept, Wish, machine=circle(7), good=[[6, 0]])
        self.fails_named(TooMany, kept, Wish, machine=circle(120), good=[[119]])

    def test_wrong_lots_ahead_of_too_many(self):
        self.fails_named(InvalidLots, {"position": 1}, Wish, machine=circle(7), good=[[6], [7]])
        self.fails_named(InvalidLots, {"position": None}, Wish, machine=circle(120), good=7)


class AskingTest(Case):

    def test_words(self):
        for wish in some_wishes(67, 40, 6):
            for begin, lap in plain.words(wish.letters, 2, 3):
                word = Word(begin, lap)
                self.assertIs(wish(word), granted(wish, begin, lap))
                self.assertIs(wish(word=word), wish(word))

    def test_values_that_are_no_words(self):
        wish = Wish(LAST, [[0]])
        for value in plain.odd_values() + [Word("c", "a"), Word("", "ac"), Word("ab", "z"), LAST, wish, ("", "a")]:
            self.fails_named(InvalidWord, {"value": value}, wish, word=value)

    def test_rings(self):
        wish = Wish(LAST, [[0], [0, 1]])
        others = [LAST, wish, [0, 1], [0], (2,), (0, 2), (1, 0), (0, 0), (True,), (0, True), (False, 1), "0", (0, "1")]
        for value in plain.odd_values() + others:
            right = isinstance(value, tuple) and all(type(place) is int for place in value)
            if right and value in [(0,), (1,), (0, 1)]:
                self.assertIs(wish[value], value != (1,))
                self.assertIs(value in wish, value != (1,))
            else:
                self.fails(InvalidRing, {"value": value}, lambda: wish[value])
                self.assertIs(value in wish, False)
        self.fails(InvalidRing, {"value": (0, 1)}, lambda: Wish(ONCE, [[0]])[(0, 1)])
        self.assertNotIn((0, 1), Wish(ONCE, [[0], [0, 1]]))

    def test_slices_are_no_rings(self):
        wish = Wish(LAST, [])
        for value in [slice(0, 1), slice(None)]:
            with self.assertRaises(InvalidRing):
                wish[value]

    def test_not_iterated(self):
        self.assertRaises(TypeError, iter, Wish(LAST, []))
        self.assertRaises(TypeError, list, Wish(LAST, []))

    def test_equal(self):
        rows = small_rows(2, "ab")[::4]
        wishes = []
        for machine in [Machine("ab", row) for row in rows] + [Machine("ac", rows[0]), Machine("a", [[0]])]:
            found = plain.rings(machine.rows())
            wishes += [Wish(machine, []), Wish(machine, found), Wish(machine, found[:1])]
        parts = [(repr(wish.machine), wish.good()) for wish in wishes]
        for one, mine in zip(wishes, parts):
            for other, theirs in zip(wishes, parts):
                self.assertIs(one == other, mine == theirs)
                self.assertIs(one != other, mine != theirs)
        wish = Wish(LAST, [[0]])
        for value in plain.odd_values()[:-1] + [LAST, [(0,)], repr(wish), (LAST, [(0,)])]:
            self.assertIs(wish == value, False)
            self.assertIs(wish != value, True)

    def test_same_wish_of_other_machines_is_not_equal(self):
        self.assertFalse(Wish(Machine("a", [[0]]), []) == Wish(Machine("a", [[1], [1]]), []))
        self.assertFalse(Wish(Machine("ab", [[1, 0], [1, 1]]), []) == Wish(Machine("ab", [[0, 1], [1, 1]]), []))


class OperatorsTest(Case):

    def test_against_words(self):
        for one, other, words in some_pairs(71, 160, 3):
            machine, _ = paired(one.machine, other.machine)
            if len(machine) > 6:
                continue
            found = [one & other, one | other, one - other]
            for wish in found:
                self.assertEqual(wish.machine, machine)
            for begin, lap in words:
                first, second = granted(one, begin, lap), granted(other, begin, lap)
                expected = [first and second, first or second, first and not second]
                self.assertEqual([granted(wish, begin, lap) for wish in found], expected)

    def test_each_ring_of_the_paired_machine(self):
        tried = 0
        for one, other, _ in some_pairs(73, 160, 4):
            machine, listed = paired(one.machine, other.machine)
            if len(machine) > 6:
                continue
            tried += 1
            both, either, less = one & other, one | other, one - other
            for ring in plain.rings(machine.rows()):
                first = tuple(sorted({listed[place][0] for place in ring})) in one.good()
                second = tuple(sorted({listed[place][1] for place in ring})) in other.good()
                self.assertIs(both[ring], first and second)
                self.assertIs(either[ring], first or second)
                self.assertIs(less[ring], first and not second)
        self.assertGreater(tried, 60)

    def test_not(self):
        for wish in some_wishes(79, 40, 6):
            other = ~wish
            self.assertEqual((other.good(), other.bad()), (wish.bad(), wish.good()))
            self.assertEqual(other.machine, wish.machine)
            self.assertEqual(~other, wish)
            for begin, lap in plain.words(wish.letters, 1, 3):
                self.assertIs(other(Word(begin, lap)), not wish(Word(begin, lap)))

    def test_values_that_are_no_wishes(self):
        wish = Wish(LAST, [[0]])
        for value in plain.odd_values() + [LAST, Word("", "ab"), [wish], (wish,), {}]:
            kept = {"value": value}
            self.fails(InvalidWish, kept, lambda: wish & value)
            self.fails(InvalidWish, kept, lambda: wish | value)
            self.fails(InvalidWish, kept, lambda: wish - value)
            self.fails_named(InvalidWish, kept, wish.is_within, other=value)

    def test_other_letters(self):
        one, other = Wish(LAST, [[0]]), Wish(Machine("ac", [[0, 1], [0, 1]]), [[0]])
        for first, second in [(one, other), (other, one), (one, Wish(Machine("a", [[0]]), []))]:
            kept = {"one": first.letters, "other": second.letters}
            self.fails(OtherLetters, kept, lambda: first & second)
            self.fails(OtherLetters, kept, lambda: first | second)
            self.fails(OtherLetters, kept, lambda: first - second)
            self.fails_named(OtherLetters, kept, first.is_within, other=second)

    def test_six_pairs_and_seven(self):
        two, three = circle(2), circle(3)
        for wish in [Wish(two, [[0, 1]]) & Wish(three, [[0, 1, 2]]), Wish(two, []) | Wish(three, [[0, 1, 2]])]:
            self.assertEqual((len(wish.machine), wish.good()), (6, [(0, 1, 2, 3, 4, 5)]))
        self.assertEqual((Wish(two, [[0, 1]]) - Wish(three, [[0, 1, 2]])).good(), [])
        # A way of one place more ahead of the circle of six.
        longer = Machine("a", [[1], [2], [1]])
        self.assertEqual(len(paired(longer, three)[0]), 7)
        kept = {"what": "places", "limit": 6}
        for one, other in [(longer, three), (three, longer), (circle(4), circle(3)), (circle(5), circle(6))]:
            first, second = Wish(one, []), Wish(other, [])
            self.fails(TooMany, kept, lambda: first & second)
            self.fails(TooMany, kept, lambda: first | second)
            self.fails(TooMany, kept, lambda: first - second)
            self.assertIs(first.is_within(second), True)

    def test_other_letters_ahead_of_too_many(self):
        one, other = Wish(circle(5), []), Wish(circle(6, "b"), [])
        kept = {"one": "a", "other": "b"}
        self.fails(OtherLetters, kept, lambda: one & other)
        self.fails(OtherLetters, kept, lambda: one | other)
        self.fails(OtherLetters, kept, lambda: one - other)

    def test_many_pairs_are_counted_only(self):
        # 36 pairs: not all their sets can be tried.
        one = Wish(Machine("ab", [[(place + 1) % 6, place] for place in range(6)]), [])
        other = Wish(Machine("ab", [[place, (place + 1) % 6] for place in range(6)]), [])
        self.fails(TooMany, {"what": "places", "limit": 6}, lambda: one | other)


class WithinTest(Case):

    def test_against_all_sets_of_pairs(self):
        answers = []
        for one, other, _ in some_pairs(83, 120, 3):
            joint = plain.joint(one.machine.rows(), other.machine.rows())
            expected = all(second in other.good() for first, second in joint if first in one.good())
            self.gives(expected, one.is_within, other=other)
            answers.append(expected)
        self.assertIn(True, answers)
        self.assertIn(False, answers)

    def test_parts_of_what_is_made(self):
        for one, other, _ in some_pairs(89, 60, 3):
            if len(paired(one.machine, other.machine)[0]) <= 6:
                self.assertTrue((one & other).is_within(one) and (one & other).is_within(other))
                self.assertTrue(one.is_within(one | other) and other.is_within(one | other))
                self.assertTrue((one - other).is_within(~other) and (one - other).is_within(one))
            self.assertTrue(one.is_within(one))
            self.assertIs(one.is_within(~one), one.good() == [])

    def test_no_limit_of_pairs(self):
        one = Wish(Machine("ab", [[(place + 1) % 6, place] for place in range(6)]), [[0, 1, 2, 3, 4, 5]])
        other = Wish(Machine("ab", [[place, (place + 1) % 6] for place in range(6)]), [[0, 1, 2, 3, 4, 5]])
        self.assertIs(one.is_within(other), False)
        everything = Wish(other.machine, other.good() + other.bad())
        self.assertIs(one.is_within(everything), True)
        self.assertIs(everything.is_within(one), False)


class BegunTest(Case):

    def test_at(self):
        for wish in some_wishes(97, 60, 6):
            rows = wish.machine.rows()
            for place in range(len(rows)):
                begun = wish.at(place)
                order, _ = plain.numbered(rows, wish.letters, place)
                self.assertEqual(begun.machine, wish.machine.at(place))
                self.assertEqual(wish.at(place=place), begun)
                for ring in plain.rings(begun.machine.rows()):
                    self.assertIs(begun[ring], wish[tuple(sorted(order[near] for near in ring))])
                for begin, lap in plain.words(wish.letters, 1, 3):
                    self.assertIs(begun(Word(begin, lap)), granted(wish, begin, lap, place))

    def test_places_that_are_none(self):
        wish = Wish(LAST, [[0]])
        for value in plain.odd_values() + [2, -2]:
            if not (type(value) is int and 0 <= value < 2):
                self.fails_named(InvalidPlace, {"value": value}, wish.at, place=value)


class TurnedTest(Case):

    def test_turned(self):
        random = Random(101)
        for wish in some_wishes(103, 60, 6):
            found = plain.rings(wish.machine.rows())
            chosen = random.sample(found, random.randrange(len(found) + 1))
            expected = [ring for ring in found if (ring in wish.good()) != (ring in chosen)]
            for given in (chosen, tuple(chosen), chosen[::-1]):
                self.gives(Wish(wish.machine, expected), wish.turned, rings=given)
                self.assertEqual(wish.turned(given).good(), expected)
            self.assertEqual(wish.turned([]), wish)
            self.assertEqual(wish.turned(found), ~wish)
            self.assertEqual(wish.turned(chosen).turned(chosen), wish)

    def test_rings_that_are_none(self):
        wish = Wish(LAST, [[0]])
        for value in plain.odd_values():
            if not isinstance(value, (list, tuple)):
                self.fails_named(InvalidRings, {"position": None}, wish.turned, rings=value)
            right = isinstance(value, tuple) and all(type(place) is int for place in value)
            if not (right and value in [(0,), (1,), (0, 1)]):
                self.fails_named(InvalidRings, {"position": 0}, wish.turned, rings=[value])
                self.fails_named(InvalidRings, {"position": 2}, wish.turned, rings=((0,), (0, 1), value, (0,)))

    def test_the_first_wrong_one_decides(self):
        wish = Wish(LAST, [[0]])
        for rings, position in [([(0,), (0,)], 1), ([(0, 1), (1,), (0, 1), None], 2), ([(0,), (1, 0), (0,)], 1),
                                ([[0]], 0), ([(0,), (True,)], 1), ([(1,), (0, 2)], 1), ((0,), 0), ([()], 0)]:
            self.fails_named(InvalidRings, {"position": position}, wish.turned, rings=rings)
        # Sets of places that are no rings of this machine.
        self.fails_named(InvalidRings, {"position": 1}, Wish(ONCE, []).turned, rings=[(0,), (0, 1)])


class UnchangedTest(Case):

    def test_lists_changed_behind(self):
        lots = [[1, 0], [0]]
        wish = Wish(LAST, lots)
        lots[0].pop()
        lots.append([1])
        wish.good().append((1,))
        wish.bad().clear()
        wish.machine.rows()[0][0] = 1
        self.assertEqual((wish.good(), wish.bad()), ([(0,), (0, 1)], [(1,)]))
        self.assertEqual(repr(wish), "Wish(Machine('ab', [[0, 1], [0, 1]]), [(0,), (0, 1)])")
        rings = [(1,)]
        turned = wish.turned(rings)
        rings.append((0,))
        self.assertEqual(turned.good(), [(0,), (0, 1), (1,)])
        self.assertIsNot(wish.good(), wish.good())

    def test_calls_change_nothing(self):
        for one, other, _ in some_pairs(107, 20, 2):
            ahead = repr((one, other))
            word = Word("", one.letters)
            calls = [lambda: one & other, lambda: one | other, lambda: one - other, lambda: ~one, one.good, one.bad,
                     lambda: one.is_within(other), lambda: one.at(0), lambda: one.turned(one.good()),
                     lambda: one(word), lambda: len(one), lambda: one.machine]
            first = [call() for call in calls]
            self.assertEqual([call() for call in reversed(calls)], first[::-1])
            self.assertRaises(InvalidRings, one.turned, [(9,)])
            self.assertRaises(InvalidWish, lambda: one & None)
            self.assertEqual(repr((one, other)), ahead)

    def test_properties_cannot_be_set(self):
        wish = Wish(LAST, [])
        self.assertRaises(AttributeError, setattr, wish, "machine", ONCE)
        self.assertRaises(AttributeError, setattr, wish, "letters", "cd")
        self.assertEqual((wish.machine, wish.letters), (LAST, "ab"))
