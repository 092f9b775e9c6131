"""Joint rings, parting words and alike places, against trials of all sets of pairs and of many words."""

from random import Random

from ringdepth.errors import InvalidPlace, OtherLetters
from ringdepth.machines import Machine
from ringdepth.same import are_alike, beyond, classes, is_parting, is_same, joint, parting, parting_at
from ringdepth.wishes import Wish
from ringdepth.words import Word
from tests import plain
from tests.cases import LAST, Case, granted, small_rows, some_pairs, some_wishes, spread

BOTH = Wish(LAST, [[0, 1]])
INFINITE = Wish(LAST, [[0], [0, 1]])


def other_letters():
    """Pairs of wishes whose letters are not the same."""
    wishes = [BOTH, Wish(Machine("a", [[0]]), []), Wish(Machine("ac", [[0, 1], [0, 1]]), [[0]]),
              Wish(Machine("abc", [[0, 0, 0]]), [])]
    return [(one, other) for one in wishes for other in wishes if one.letters != other.letters]


def check_word(case, letters, word):
    """What may be returned as an OPEN Word."""
    case.assertIs(type(word), Word)
    case.assertLessEqual(set(word.coming()), set(letters))


class JointTest(Case):

    def test_joint(self):
        for one, other, words in some_pairs(109, 120, 3):
            expected = plain.joint(one.machine.rows(), other.machine.rows())
            self.gives(expected, joint, one=one, other=other)
            for begin, lap in words:
                met = tuple(plain.met(wish.machine.rows(), wish.letters, begin, lap) for wish in (one, other))
                self.assertIn(met, expected)

    def test_joint_of_all_small_machines(self):
        machines = [Machine("ab", rows) for rows in small_rows(2, "ab")]
        for one in machines:
            for other in machines:
                expected = plain.joint(one.rows(), other.rows())
                self.assertEqual(joint(Wish(one, [[0]]), Wish(other, [])), expected)

    def test_joint_of_greater_machines(self):
        tried = 0
        for one, other, words in some_pairs(113, 40, 6):
            rows, listed = plain.pairs(one.machine.rows(), other.machine.rows())
            kept = plain.come_to(rows)
            if len(kept) <= 12:
                tried += 1
                self.assertEqual(joint(one, other), plain.joint(one.machine.rows(), other.machine.rows()))
            found = joint(one, other)
            self.assertEqual(found, sorted(set(found)))
            for begin, lap in words:
                met = tuple(plain.met(wish.machine.rows(), wish.letters, begin, lap) for wish in (one, other))
                self.assertIn(met, found)
        self.assertGreater(tried, 10)

    def test_kinds_are_not_asked(self):
        self.assertEqual(joint(BOTH, ~BOTH), [((0,), (0,)), ((0, 1), (0, 1)), ((1,), (1,))])

    def test_36_pairs(self):
        one = Wish(Machine("ab", [[(place + 1) % 6, place] for place in range(6)]), [])
        other = Wish(Machine("ab", [[place, (place + 1) % 6] for place in range(6)]), [])
        whole = (0, 1, 2, 3, 4, 5)
        single = [(place,) for place in range(6)]
        expected = sorted([(whole, whole)] + [(whole, one) for one in single] + [(one, whole) for one in single])
        self.assertEqual(joint(one, other), expected)


class PartingTest(Case):

    def check_pair(self, one, other):
        """All that is told of a pair is as the joint rings tell it."""
        joined = plain.joint(one.machine.rows(), other.machine.rows())
        kinds = [(first in one.good(), second in other.good()) for first, second in joined]
        same = all(first == second for first, second in kinds)
        self.gives(same, is_same, one=one, other=other)
        self.gives(same, is_same, one=other, other=one)
        word = parting(one, other)
        self.assertEqual(parting(other=other, one=one), word)
        self.assertIs(word is None, same)
        if word is not None:
            check_word(self, one.letters, word)
            self.assertNotEqual(granted(one, word.begin, word.lap), granted(other, word.begin, word.lap))
            self.gives(True, is_parting, one=one, other=other, value=word)
        word = beyond(one, other)
        self.assertEqual(beyond(other=other, one=one), word)
        self.assertIs(word is None, (True, False) not in kinds)
        if word is not None:
            check_word(self, one.letters, word)
            self.assertTrue(granted(one, word.begin, word.lap))
            self.assertFalse(granted(other, word.begin, word.lap))
        self.assertIs(one.is_within(other), word is None)
        return same

    def test_random_pairs(self):
        for one, other, words in some_pairs(127, 120, 3):
            self.check_pair(one, other)
            self.check_pair(other, one)
            for begin, lap in words:
                parts = granted(one, begin, lap) != granted(other, begin, lap)
                self.assertIs(is_parting(one, other, Word(begin, lap)), parts)

    def test_wishes_told_with_other_machines(self):
        random = Random(131)
        for wish in some_wishes(137, 60, 4):
            other = spread(wish, random)
            self.assertIs(is_same(wish, other), True)
            self.assertIs(is_same(other, wish), True)
            self.assertIsNone(parting(wish, other))
            self.assertIsNone(beyond(other, wish))
            for ring in plain.rings(other.machine.rows()):
                turned = other.turned([ring])
                self.assertIs(is_same(wish, turned), False)
                word = parting(wish, turned)
                self.assertNotEqual(granted(wish, word.begin, word.lap), granted(turned, word.begin, word.lap))

    def test_all_wishes_of_one_machine(self):
        for rows in small_rows(2, "ab")[::3]:
            machine = Machine("ab", rows)
            wishes = [Wish(machine, [])]
            for ring in plain.rings(rows):
                wishes += [wish.turned([ring]) for wish in wishes]
            for one in wishes:
                for other in wishes:
                    self.assertIs(self.check_pair(one, other), one == other)

    def test_one_way_only(self):
        self.assertIsNone(beyond(BOTH, INFINITE))
        self.assertEqual(beyond(INFINITE, BOTH), Word.of("a"))
        # The parting word is found whichever of both is the greater one.
        self.assertEqual((parting(BOTH, INFINITE), parting(INFINITE, BOTH)), (Word.of("a"), Word.of("a")))

    def test_is_parting_for_any_value(self):
        values = plain.odd_values() + [("", "a"), "a", LAST, BOTH, Word("", "c"), Word("c", "a"), Word("", "abc")]
        for value in values:
            self.gives(False, is_parting, one=BOTH, other=INFINITE, value=value)
        self.assertIs(is_parting(BOTH, INFINITE, Word("b", "a")), True)
        self.assertIs(is_parting(BOTH, INFINITE, Word("a", "b")), False)
        self.assertIs(is_parting(BOTH, BOTH, Word("b", "a")), False)

    def test_other_letters(self):
        for one, other in other_letters():
            kept = {"one": one.letters, "other": other.letters}
            for asked in (joint, is_same, parting, beyond):
                self.fails_named(OtherLetters, kept, asked, one=one, other=other)
            for value in [Word("", "a"), None, Word("", "z")]:
                self.fails_named(OtherLetters, kept, is_parting, one=one, other=other, value=value)

    def test_greater_wishes(self):
        for one, other, words in some_pairs(139, 40, 6):
            word = parting(one, other)
            self.assertIs(is_same(one, other), word is None)
            if word is not None:
                check_word(self, one.letters, word)
                self.assertNotEqual(granted(one, word.begin, word.lap), granted(other, word.begin, word.lap))
                self.assertIs(is_parting(one, other, word), True)
            for first, second in ((one, other), (other, one)):
                word = beyond(first, second)
                self.assertIs(first.is_within(second), word is None)
                if word is not None:
                    self.assertTrue(granted(first, word.begin, word.lap))
                    self.assertFalse(granted(second, word.begin, word.lap))
                for begin, lap in words:
                    if granted(first, begin, lap) and not granted(second, begin, lap):
                        self.assertIsNotNone(word)


class AlikeTest(Case):

    def alike(self, wish, place, second):
        """Whether two places are alike, by the joint rings of the machines begun at them."""
        begun = []
        for start in (place, second):
            order, rows = plain.numbered(wish.machine.rows(), wish.letters, start)
            good = [ring for ring in plain.rings(rows) if tuple(sorted(order[near] for near in ring)) in wish.good()]
            begun.append((rows, good))
        (one, one_good), (other, other_good) = begun
        return all((first in one_good) == (near in other_good) for first, near in plain.joint(one, other))

    def check_wish(self, wish):
        """All that is told of the places of a wish."""
        many = len(wish.machine)
        expected = [[self.alike(wish, place, second) for second in range(many)] for place in range(many)]
        found = []
        for row in expected:
            kin = [place for place in range(many) if row[place]]
            if kin not in found:
                found.append(kin)
        self.gives(sorted(found), classes, wish=wish)
        for place in range(many):
            for second in range(many):
                self.gives(expected[place][second], are_alike, wish=wish, place=place, second=second)
                word = parting_at(wish, place, second)
                self.assertIs(word is None, expected[place][second])
                self.assertEqual(parting_at(wish=wish, second=second, place=place), word)
                if word is not None:
                    check_word(self, wish.letters, word)
                    self.assertNotEqual(granted(wish, word.begin, word.lap, place),
                                        granted(wish, word.begin, word.lap, second))

    def test_small_wishes(self):
        for wish in some_wishes(149, 40, 3):
            self.check_wish(wish)

    def test_places_that_stand_twice(self):
        random = Random(151)
        alike = 0
        for wish in some_wishes(157, 30, 2):
            other = spread(wish, random)
            if len(other.machine) <= 3:
                self.check_wish(other)
                alike += len(classes(other)) < len(other.machine)
        self.assertGreater(alike, 5)

    def test_greater_wishes(self):
        for wish in some_wishes(163, 25, 6):
            many = len(wish.machine)
            found = classes(wish)
            self.assertEqual(sorted(place for kin in found for place in kin), list(range(many)))
            self.assertEqual(found, sorted(sorted(kin) for kin in found))
            kind = {place: kin for kin in found for place in kin}
            words = plain.words(wish.letters, 1, 3)
            for place in range(many):
                for second in range(many):
                    self.assertIs(are_alike(wish, place, second), kind[place] == kind[second])
                    word = parting_at(wish, place, second)
                    self.assertIs(word is None, kind[place] == kind[second])
                    if word is not None:
                        self.assertNotEqual(granted(wish, word.begin, word.lap, place),
                                            granted(wish, word.begin, word.lap, second))
                    else:
                        self.assertTrue(all(granted(wish, begin, lap, place) == granted(wish, begin, lap, second)
                                            for begin, lap in words))

    def test_classes_are_sorted(self):
        machine = Machine("ab", [[1, 2], [3, 3], [4, 4], [3, 3], [4, 4]])
        self.assertEqual(classes(Wish(machine, [[3]])), [[0], [1, 3], [2, 4]])
        self.assertEqual(classes(Wish(machine, [[3], [4]])), [[0, 1, 2, 3, 4]])
        self.assertEqual(classes(Wish(machine, [])), [[0, 1, 2, 3, 4]])

    def test_places_that_are_none(self):
        for value in plain.odd_values() + [2, -2]:
            if not (type(value) is int and 0 <= value < 2):
                kept = {"value": value}
                for asked in (are_alike, parting_at):
                    self.fails_named(InvalidPlace, kept, asked, wish=BOTH, place=value, second=1)
                    self.fails_named(InvalidPlace, kept, asked, wish=BOTH, place=0, second=value)
                    self.fails_named(InvalidPlace, kept, asked, wish=BOTH, place=value, second=None)
                    self.fails_named(InvalidPlace, kept, asked, wish=BOTH, place=value, second=2)


class UnchangedTest(Case):

    def test_returned_lists_changed_behind(self):
        found = joint(BOTH, INFINITE)
        found.clear()
        kin = classes(INFINITE)
        kin[0].append(7)
        self.assertEqual(joint(BOTH, INFINITE), [((0,), (0,)), ((0, 1), (0, 1)), ((1,), (1,))])
        self.assertEqual(classes(INFINITE), [[0, 1]])

    def test_calls_change_nothing(self):
        for one, other, _ in some_pairs(167, 20, 4):
            ahead = repr((one, other))
            calls = [lambda: joint(one, other), lambda: is_same(one, other), lambda: parting(one, other),
                     lambda: beyond(one, other), lambda: classes(one), lambda: are_alike(one, 0, 0),
                     lambda: parting_at(one, 0, len(one.machine) - 1), lambda: is_parting(one, other, None)]
            first = [call() for call in calls]
            self.assertEqual([call() for call in reversed(calls)], first[::-1])
            self.assertRaises(InvalidPlace, are_alike, one, 0, 9)
            self.assertEqual(repr((one, other)), ahead)
