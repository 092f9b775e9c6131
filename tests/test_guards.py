"""Guards, hopes and lively parts, ring by ring and by words, and what settles a word, letter by letter."""

from random import Random

from ringdepth.errors import InvalidWord
from ringdepth.guards import guard, hope, is_guard, is_hope, is_lively, lively, settles_at
from ringdepth.machines import Machine
from ringdepth.settled import answers
from ringdepth.wishes import Wish
from ringdepth.words import Word
from tests import plain, plain_depth
from tests.cases import LAST, Case, drawn_wishes, granted, turned_about

BOTH = Wish(LAST, [[0, 1]])
SEEN = Wish(Machine("ab", [[1, 0], [1, 1]]), [[1]])
WISHES = drawn_wishes(701, 40)


def first_not_open(wish, right, begin, lap):
    """The number of letters of the shortest begin behind which the wish is not open, letter by letter; or None."""
    rows = wish.machine.rows()
    place = 0
    for many, letter in enumerate(begin + lap * (len(rows) + 1) + lap[0]):
        if right[place] != "open":
            return many
        place = rows[place][wish.letters.index(letter)]
    return None


class PartsTest(Case):

    def test_ring_by_ring(self):
        for wish in WISHES:
            right = plain_depth.answers(wish)
            found = [guard(wish), hope(wish), lively(wish)]
            for made, ask in zip(found, (guard, hope, lively)):
                self.gives(made, ask, wish=wish)
                self.assertIs(type(made), Wish)
                self.assertEqual(made.machine, wish.machine)
            for ring, is_good in plain_depth.ring_kinds(wish).items():
                told = {right[place] for place in ring}
                self.assertEqual(len(told), 1)
                expected = ["no" not in told, "yes" in told, is_good or "no" in told]
                self.assertEqual([made[ring] for made in found], expected)

    def test_by_words(self):
        for wish in WISHES[::4]:
            right = plain_depth.answers(wish)
            first, second, third = guard(wish), hope(wish), lively(wish)
            rows = wish.machine.rows()
            for begin, lap in plain.words(wish.letters, 2, 2):
                begun = begin + lap * len(rows)
                met = {right[plain.goes(rows, wish.letters, 0, begun[:many])] for many in range(len(begun) + 1)}
                self.assertIs(granted(first, begin, lap), "no" not in met)
                self.assertIs(granted(second, begin, lap), "yes" in met)
                self.assertIs(granted(third, begin, lap), granted(wish, begin, lap) or "no" in met)

    def test_together(self):
        for wish in WISHES:
            first, second, third = guard(wish), hope(wish), lively(wish)
            good = [set(one.good()) for one in (second, wish, first)]
            self.assertTrue(good[0] <= good[1] <= good[2])
            self.assertTrue(second.is_within(wish) and wish.is_within(first) and wish.is_within(third))
            # Each ring is met by some word, so wishes of one machine are the same just if they have one list of them.
            self.assertEqual(set(first.good()) & set(third.good()), set(wish.good()))
            self.assertIs(is_lively(third), True)
            self.assertIs(is_guard(first), True)
            self.assertIs(is_hope(second), True)

    def test_both_of_guard_and_lively(self):
        for wish in [wish for wish in WISHES if len(wish.machine) < 4]:
            made = guard(wish) & lively(wish)
            self.assertTrue(made.is_within(wish) and wish.is_within(made))

    def test_not_turns_hope_and_guard(self):
        for wish in WISHES:
            self.assertEqual(guard(~wish), ~hope(wish))
            self.assertEqual(hope(~wish), ~guard(wish))
            self.assertIs(is_guard(~wish), is_hope(wish))
            self.assertIs(is_hope(~wish), is_guard(wish))

    def test_of_their_kind(self):
        found = []
        for wish in WISHES:
            right = plain_depth.answers(wish)
            kinds = plain_depth.ring_kinds(wish)
            expected = (all(is_good == (right[ring[0]] != "no") for ring, is_good in kinds.items()),
                        all(is_good == (right[ring[0]] == "yes") for ring, is_good in kinds.items()), "no" not in right)
            self.gives(expected[0], is_guard, wish=wish)
            self.gives(expected[1], is_hope, wish=wish)
            self.gives(expected[2], is_lively, wish=wish)
            found.append(expected)
        for expected in [(True, False, False), (False, True, True), (True, True, True), (True, True, False),
                         (False, False, False), (False, False, True), (False, True, False)]:
            self.assertIn(expected, found)

    def test_places_numbered_otherwise(self):
        random = Random(709)
        for wish in WISHES[::3]:
            other = turned_about(wish, random)
            self.assertEqual((is_guard(other), is_hope(other), is_lively(other)),
                             (is_guard(wish), is_hope(wish), is_lively(wish)))
            self.assertTrue(guard(other).is_within(guard(wish)) and guard(wish).is_within(guard(other)))

    def test_lively_at_passed_places(self):
        # A passed place is settled, too: place 1 leads to bad rings alone.
        wish = Wish(Machine("ab", [[1, 2], [3, 3], [2, 2], [3, 3]]), [[2]])
        self.assertEqual(answers(wish), ["open", "no", "yes", "no"])
        self.assertIs(is_lively(wish), False)
        self.assertEqual(lively(wish).good(), [(2,), (3,)])


class SettlesAtTest(Case):

    def test_letter_by_letter(self):
        found = []
        for wish in WISHES:
            right = plain_depth.answers(wish)
            for begin, lap in plain.words(wish.letters, 2, 2)[::3]:
                expected = first_not_open(wish, right, begin, lap)
                self.gives(expected, settles_at, wish=wish, word=Word(begin, lap))
                found.append(expected)
        self.assertIn(None, found)
        self.assertIn(0, found)
        self.assertGreater(max(many for many in found if many is not None), 3)

    def test_begins_of_thousands_of_letters(self):
        for many in (1, 1000, 7999, 8000):
            self.assertEqual(settles_at(SEEN, Word("b" * many, "a")), many + 1)
            self.assertEqual(settles_at(SEEN, Word("b" * (many - 1) + "a", "b")), many)
        self.assertEqual(settles_at(SEEN, Word("a", "b" * 7999 + "a")), 1)
        self.assertEqual(settles_at(SEEN, Word("", "b" * 7999 + "a")), 8000)
        self.assertIsNone(settles_at(SEEN, Word("b" * 8000, "b")))
        # Each lap leads one place further, so that the last of six laps settles it.
        way = Wish(Machine("ab", [[0, 1], [1, 2], [2, 3], [3, 4], [4, 5], [5, 5]]), [[5]])
        self.assertEqual(settles_at(way, Word("", "a" * 7999 + "b")), 40000)
        self.assertEqual(settles_at(way, Word("a" * 7000 + "b" + "a" * 999, "ab")), 8008)
        self.assertIsNone(settles_at(way, Word("a" * 5000 + "bbbb" + "a" * 2996, "a" * 8000)))

    def test_random_long_words(self):
        random = Random(719)
        for wish in WISHES[::8]:
            right = plain_depth.answers(wish)
            begin = "".join(random.choice(wish.letters) for _ in range(random.choice([0, 3, 3000])))
            lap = "".join(random.choice(wish.letters) for _ in range(random.choice([1, 2, 2000])))
            self.assertEqual(settles_at(wish, Word(begin, lap)), first_not_open(wish, right, begin, lap))

    def test_values_that_are_no_words(self):
        for value in plain.odd_values() + [Word("c", "a"), Word("", "ac"), Word("ab", "z"), LAST, SEEN, ("", "a"), "a"]:
            self.fails_named(InvalidWord, {"value": value}, settles_at, wish=SEEN, word=value)


class UnchangedTest(Case):

    def test_calls_change_nothing(self):
        wishes = WISHES[::20]
        ahead = repr(wishes)
        asked = [guard, hope, lively, is_guard, is_hope, is_lively,
                 lambda wish: settles_at(wish, Word.of(wish.letters))]
        first = [[ask(wish) for ask in asked] for wish in wishes]
        second = [[ask(wish) for ask in asked[::-1]][::-1] for wish in wishes[::-1]][::-1]
        self.assertEqual(first, second)
        self.assertRaises(InvalidWord, settles_at, wishes[0], None)
        self.assertEqual(repr(wishes), ahead)
