"""Wishes told by ranked machines, against going by pairs of places, by words and through all pairs of rings."""

from random import Random

from ringdepth.chains import chain, depth, least_ranks
from ringdepth.errors import OtherLetters, TooMany
from ringdepth.judging import differs, do_spoil, is_ranked_of, own_ranks, ranked_of, spoilers
from ringdepth.machines import Machine
from ringdepth.nests import how_many_ways, nest
from ringdepth.ranked import Ranked, own_depth
from ringdepth.same import is_same
from ringdepth.wishes import Wish
from ringdepth.words import Word
from tests import plain, plain_depth
from tests.cases import (
    LAST, Case, drawn_wishes, granted, random_rows, ranked_rows, round_rows, rounds, some_machines, spread,
    turned_about, wide_rows,
)

BOTH = Wish(LAST, [[0, 1]])
RANKED = Ranked(LAST, [[1, 2], [2, 1]])
MIXED = Wish(Machine("abc", [[0, 1, 2], [0, 1, 2], [0, 1, 2]]), [[0, 1], [0, 2]])
WISHES = drawn_wishes(503, 40)
FEW_WAYS = [wish for wish in WISHES if how_many_ways(wish) <= 120]


def by_size(machine, sizes):
    """A wish of a machine in which the rings of these numbers of places are good."""
    return Wish(machine, [ring for ring in plain.rings(machine.rows()) if len(ring) in sizes])


def ranks_greatest(ranked, begin, lap):
    """Whether a ranked machine grants a word, by walking."""
    found = plain_depth.greatest_again(ranked.machine.rows(), ranked.letters, ranked.ranks(), begin, lap)
    return found % 2 == 0


def blown_up(ranked, random, places):
    """The same ranked machine, told with one of up to so many times its places."""
    letters = ranked.letters
    rows, listed = plain.pairs(ranked.machine.rows(), random_rows(random, places, letters))
    order = sorted(plain.come_to(rows))
    ranks = ranked.ranks()
    return Ranked(Machine(letters, [[order.index(goal) for goal in rows[place]] for place in order]),
                  [ranks[listed[place][0]] for place in order])


class WordCase(Case):
    """A test case that judges words that differ."""

    def check_word(self, wish, ranked, word):
        """A word that differs is one, letter by letter, and of the length that may be returned."""
        self.assertIs(type(word), Word)
        self.assertLessEqual(set(word.coming()), set(wish.letters))
        self.assertLessEqual(max(len(word.begin), len(word.lap)), 8000)
        self.assertNotEqual(granted(wish, word.begin, word.lap), ranks_greatest(ranked, word.begin, word.lap))


class RankedOfTest(WordCase):

    def test_same_words_with_so_many_ranks(self):
        places = set()
        for wish in FEW_WAYS:
            ranked = ranked_of(wish)
            rows, ranks = ranked.machine.rows(), ranked.ranks()
            self.gives(ranked, ranked_of, wish=wish)
            self.assertIs(type(ranked), Ranked)
            self.assertEqual(ranked.letters, wish.letters)
            self.assertLessEqual(len(rows), 120)
            places.add(len(rows))
            expected = plain_depth.longest(plain_depth.ring_kinds(wish))
            self.assertEqual(len(plain_depth.used(rows, ranks)), plain_depth.least_ranks(expected))
            self.assertEqual(ranked.used(), plain_depth.used(rows, ranks))
            self.assertEqual(own_depth(ranked), expected)
            self.gives(None, differs, wish=wish, ranked=ranked)
            self.gives(True, is_ranked_of, wish=wish, value=ranked)
            for begin, lap in plain.words(wish.letters, 1, 3):
                self.assertIs(ranks_greatest(ranked, begin, lap), granted(wish, begin, lap))
        self.assertGreater(max(places), 50)

    def test_same_words_by_pairs_of_places(self):
        tried = 0
        for wish in FEW_WAYS[::3]:
            ranked = ranked_of(wish)
            if len(ranked.machine) * len(wish.machine) <= 60:
                tried += 1
                self.assertIs(plain_depth.differ(wish, ranked.machine.rows(), ranked.ranks()), False)
        self.assertGreater(tried, 100)

    def test_all_wishes_of_small_machines(self):
        for rows in [[[0, 1], [0, 1]], [[0, 1, 2], [0, 1, 1], [0, 2, 2]], [[1, 2], [1, 0], [0, 2]],
                     [[1, 0], [1, 2], [2, 2]]]:
            wishes = [Wish(Machine("abc"[:len(rows[0])], rows), [])]
            for ring in plain.rings(rows):
                wishes += [wish.turned([ring]) for wish in wishes]
            for wish in wishes:
                ranked = ranked_of(wish)
                self.assertIs(plain_depth.differ(wish, ranked.machine.rows(), ranked.ranks()), False)
                self.assertEqual(len(ranked.used()), plain_depth.least_ranks(depth(wish)))

    def test_just_120_ways_and_one_more(self):
        just = [by_size(Machine("abc", round_rows(6, leaps)), sizes)
                for leaps, sizes in [((1, 2, 3), (5,)), ((1, 2, 3), (3, 4, 6)), ((1, 3, 5), (2, 3, 4, 6)),
                                     ((2, 3, 4), (5, 1))]]
        just += [by_size(Machine("abc", rows), sizes) for rows, sizes in [
            ([[4, 3, 1], [4, 2, 2], [0, 5, 3], [0, 5, 5], [2, 2, 0], [4, 1, 0]], (2, 4, 6)),
            ([[3, 2, 1], [2, 4, 4], [0, 3, 1], [2, 5, 4], [2, 4, 5], [2, 4, 5]], (1, 3, 5))]]
        for wish in just:
            for one in (wish, ~wish):
                self.assertEqual(how_many_ways(one), 120)
                ranked = ranked_of(one)
                self.assertLessEqual(len(ranked.machine), 120)
                self.assertEqual(len(ranked.used()), least_ranks(one))
                self.assertIs(is_ranked_of(one, ranked), True)
                for begin, lap in plain.words("abc", 1, 4):
                    self.assertIs(ranks_greatest(ranked, begin, lap), granted(one, begin, lap))
        for rows, sizes in [([[4, 2, 0], [4, 2, 0], [1, 3, 0], [4, 4, 2], [5, 2, 1], [2, 1, 4]], (2, 4, 6)),
                            ([[5, 1, 4], [4, 3, 1], [3, 4, 1], [0, 1, 2], [3, 1, 0], [0, 2, 0]], (1, 3, 5))]:
            wish = by_size(Machine("abc", rows), sizes)
            self.assertEqual(how_many_ways(wish), 121)
            for one in (wish, ~wish):
                self.fails_named(TooMany, {"what": "ways", "limit": 120}, ranked_of, wish=one)

    def test_more_ways(self):
        tried = 0
        for machine in rounds():
            for sizes in [(1, 3, 5), (2, 4, 6), (5,), (3, 4, 6)]:
                wish = by_size(machine, sizes)
                many = sum(len(plain_depth.ways(plain_depth.ring_kinds(wish), place)) for place in range(len(machine)))
                if many <= 120:
                    self.assertEqual(len(ranked_of(wish).used()), least_ranks(wish))
                    continue
                tried += 1
                self.fails_named(TooMany, {"what": "ways", "limit": 120}, ranked_of, wish=wish)
                # All else is told of such a wish.
                kinds = plain_depth.ring_kinds(wish)
                self.assertEqual((how_many_ways(wish), depth(wish)), (many, plain_depth.longest(kinds)))
                self.assertEqual(nest(wish), plain_depth.nest(kinds))
                self.assertEqual(len(chain(wish, True)), depth(wish)[0])
                self.assertEqual(spoilers(wish), plain_depth.spoilers(kinds)[0])
                self.assertIsNone(own_ranks(wish))
                ranked = Ranked(machine, [[place % 3 for _ in row] for place, row in enumerate(machine.rows())])
                self.check_word(wish, ranked, differs(wish, ranked))
        self.assertGreater(tried, 10)

    def test_never_fewer_ranks(self):
        random = Random(509)
        tried = 0
        for wish in WISHES:
            needed = plain_depth.least_ranks(depth(wish))
            if needed == 1:
                continue
            own = wish.machine
            for machine in [own, Machine(own.letters, random_rows(random, 8, own.letters))]:
                few = sorted(random.sample(range(13), needed - 1))
                ranked = Ranked(machine, [[random.choice(few) for _ in row] for row in machine.rows()])
                self.assertLess(len(ranked.used()), needed)
                tried += 1
                self.check_word(wish, ranked, differs(wish, ranked))
                self.assertIs(is_ranked_of(wish, ranked), False)
            if how_many_ways(wish) <= 120:
                # All ranks of one kind beneath each other fall together.
                right = ranked_of(wish)
                second = right.used()[1]
                ranked = Ranked(right.machine, [[max(rank, second) for rank in line] for line in right.ranks()])
                self.check_word(wish, ranked, differs(wish, ranked))
        self.assertGreater(tried, 500)

    def test_chain_or_ranks(self):
        for wish in FEW_WAYS[::4]:
            ranked = ranked_of(wish)
            for is_good in (True, False):
                # No longer chain is there than the own depth of the ranked machine tells.
                self.assertEqual(len(chain(wish, is_good)), own_depth(ranked)[0 if is_good else 1])


class DiffersTest(WordCase):

    def check_pair(self, wish, ranked):
        """What is told of a wish and a ranked machine, by pairs of places and by the word."""
        expected = plain_depth.differ(wish, ranked.machine.rows(), ranked.ranks())
        word = differs(wish, ranked)
        self.assertEqual(differs(ranked=ranked, wish=wish), word)
        self.assertIs(word is not None, expected)
        self.gives(not expected, is_ranked_of, wish=wish, value=ranked)
        if word is not None:
            self.check_word(wish, ranked, word)
        return expected

    def test_random_ranks(self):
        random = Random(521)
        answers = []
        for machine in some_machines(random, 150, 4):
            wish = Wish(machine, [ring for ring in plain.rings(machine.rows()) if random.randrange(2)])
            for most in (1, 2, 3, 12):
                other = Machine(machine.letters, random_rows(random, 4, machine.letters))
                answers.append(self.check_pair(wish, Ranked(machine, ranked_rows(random, machine.rows(), most))))
                answers.append(self.check_pair(wish, Ranked(other, ranked_rows(random, other.rows(), most))))
        self.assertGreater(answers.count(True), 100)
        self.assertGreater(answers.count(False), 50)

    def test_one_rank_changed(self):
        random = Random(523)
        answers = []
        for wish in FEW_WAYS[::2]:
            right = ranked_of(wish)
            if len(right.machine) * len(wish.machine) <= 36:
                for _ in range(3):
                    ranks = right.ranks()
                    line = random.choice(ranks)
                    line[random.randrange(len(line))] = random.randrange(8)
                    answers.append(self.check_pair(wish, Ranked(right.machine, ranks)))
        self.assertGreater(answers.count(True), 100)
        self.assertGreater(answers.count(False), 50)

    def test_ranked_machines_of_many_places(self):
        random = Random(541)
        greatest = 0
        for wish in FEW_WAYS[::3]:
            ranked = ranked_of(wish)
            ranked = blown_up(ranked, random, 120 // len(ranked.machine))
            greatest = max(greatest, len(ranked.machine))
            self.assertIsNone(differs(wish, ranked))
            ranks = ranked.ranks()
            line = random.choice(ranks)
            line[random.randrange(len(line))] += 1
            changed = Ranked(ranked.machine, ranks)
            word = differs(wish, changed)
            if word is not None:
                self.check_word(wish, changed, word)
            else:
                for begin, lap in plain.words(wish.letters, 2, 3):
                    self.assertIs(ranks_greatest(changed, begin, lap), granted(wish, begin, lap))
        self.assertGreater(greatest, 100)

    def test_long_laps(self):
        # The one step of an odd rank stands at the far end of a way of 120 places.
        rows = [[min(place + 1, 119), 0] for place in range(120)]
        ranks = [[0, 2] for _ in range(119)] + [[0, 3]]
        ranked = Ranked(Machine("ab", rows), ranks)
        for wish in [Wish(LAST, [[0], [1], [0, 1]]), ~Wish(Machine("ab", [[0, 0]]), [])]:
            word = differs(wish, ranked)
            self.check_word(wish, ranked, word)
            self.assertGreater(len(word.lap), 100)
        # Two circles of 6 and of 119 places come together again only after 714 steps.
        ranked = Ranked(Machine("a", round_rows(119, (1,))), [[4]] * 70 + [[11]] + [[0]] * 48)
        wish = Wish(Machine("a", round_rows(6, (1,))), [[0, 1, 2, 3, 4, 5]])
        self.check_word(wish, ranked, differs(wish, ranked))
        self.assertIsNone(differs(~wish, ranked))
        random = Random(547)
        for letters in ("ab", "abc"):
            machine = Machine(letters, wide_rows(random, 120, letters))
            for wish in FEW_WAYS[::9]:
                if wish.letters == letters:
                    for most in (1, 12):
                        ranked = Ranked(machine, ranked_rows(random, machine.rows(), most))
                        word = differs(wish, ranked)
                        if word is not None:
                            self.check_word(wish, ranked, word)

    def test_one_depth_of_the_same_words(self):
        random = Random(557)
        for wish in FEW_WAYS[::5]:
            ranked = ranked_of(turned_about(wish, random))
            ranked = blown_up(ranked, random, min(5, 120 // len(ranked.machine)))
            self.assertIsNone(differs(wish, ranked))
            self.assertEqual(own_depth(ranked), depth(wish))
            if len(wish.machine) < 6:
                other = spread(wish, random)
                self.assertIs(is_same(wish, other), True)
                self.assertIsNone(differs(other, ranked))

    def test_other_letters(self):
        others = [Ranked(Machine("a", [[0]]), [[0]]), Ranked(Machine("abc", [[0, 0, 0]]), [[0, 1, 2]]),
                  Ranked(Machine("ac", [[0, 1], [0, 1]]), [[1, 2], [2, 1]])]
        for ranked in others:
            kept = {"one": "ab", "other": ranked.letters}
            self.fails_named(OtherLetters, kept, differs, wish=BOTH, ranked=ranked)
            self.gives(False, is_ranked_of, wish=BOTH, value=ranked)
        self.fails_named(OtherLetters, {"one": "abc", "other": "ab"}, differs, wish=MIXED, ranked=RANKED)

    def test_is_ranked_of_for_any_value(self):
        others = [LAST, BOTH, ~BOTH, (LAST, [[1, 2], [2, 1]]), [RANKED], (RANKED,), repr(RANKED), Word("", "ab"),
                  ~RANKED, Ranked(LAST, [[0, 0], [0, 0]]), {RANKED.letters: RANKED}]
        for value in plain.odd_values() + others:
            self.gives(False, is_ranked_of, wish=BOTH, value=value)
        self.gives(True, is_ranked_of, wish=BOTH, value=Ranked(LAST, [[1, 2], [2, 1]]))
        self.gives(True, is_ranked_of, wish=~BOTH, value=~RANKED)


class OwnRanksTest(Case):

    def test_own_ranks_or_spoilers(self):
        answers = []
        for wish in WISHES:
            spoil = plain_depth.spoilers(plain_depth.ring_kinds(wish))
            found = own_ranks(wish)
            self.gives(spoil[0] if spoil else None, spoilers, wish=wish)
            self.assertEqual(own_ranks(wish=wish), found)
            self.assertIs(found is None, bool(spoil))
            answers.append(bool(spoil))
            if found is not None:
                self.assertIs(type(found), Ranked)
                self.assertEqual(found.machine, wish.machine)
                self.assertIs(plain_depth.differ(wish, found.machine.rows(), found.ranks()), False)
                self.assertIsNone(differs(wish, found))
                self.assertEqual(own_depth(found), depth(wish))
        self.assertGreater(answers.count(True), 80)
        self.assertGreater(answers.count(False), 100)

    def test_no_own_ranks_at_all_of_small_machines(self):
        random = Random(563)
        for _ in range(150):
            ranked = Ranked(MIXED.machine, ranked_rows(random, MIXED.machine.rows(), 12))
            self.assertIsNotNone(differs(MIXED, ranked))

    def test_do_spoil(self):
        answers = []
        for wish in WISHES[::4]:
            kinds = plain_depth.ring_kinds(wish)
            for one in kinds:
                for other in list(kinds)[:12]:
                    expected = plain_depth.do_spoil(kinds, one, other)
                    answers.append(expected)
                    self.gives(expected, do_spoil, wish=wish, value=(one, other))
                    self.assertIs(do_spoil(wish, (other, one)), expected)
                    self.assertIs(do_spoil(wish, [one, other]), False)
        self.assertGreater(answers.count(True), 300)

    def test_do_spoil_for_any_value(self):
        right = ((0, 1), (0, 2))
        others = [[(0, 1), (0, 2)], ([0, 1], [0, 2]), ((0, 1),), ((0, 1), (0, 2), (0, 1, 2)), ((0, 1), (0, 1)),
                  ((0, 1), (1, 2)), ((0, 1), (2, 0)), ((1, 0), (0, 2)), ((False, 1), (0, 2)), ((0, True), (0, 2)),
                  ((0, 1), (0, 3)), (0, 1), ((0, 1), None), (None, (0, 2)), ((0, 1), plain.Hostile()), ((), ()),
                  (plain.Broken(), (0, 2)), ("01", "02"), {(0, 1): (0, 2)}, MIXED, RANKED]
        for value in plain.odd_values() + others:
            self.gives(False, do_spoil, wish=MIXED, value=value)
        self.gives(True, do_spoil, wish=MIXED, value=right)
        self.gives(True, do_spoil, wish=MIXED, value=right[::-1])
        self.gives(False, do_spoil, wish=BOTH, value=((0,), (1,)))
        self.gives(False, do_spoil, wish=BOTH, value=right)


class UnchangedTest(Case):

    def test_calls_change_nothing(self):
        wishes = FEW_WAYS[::15]
        ahead = repr(wishes)
        asked = [ranked_of, own_ranks, spoilers, lambda wish: differs(wish, Ranked(wish.machine, [
            [place % 2 for _ in row] for place, row in enumerate(wish.machine.rows())]))]
        first = [[ask(wish) for ask in asked] for wish in wishes]
        second = [[ask(wish) for ask in asked[::-1]][::-1] for wish in wishes[::-1]][::-1]
        self.assertEqual(first, second)
        self.assertRaises(OtherLetters, differs, MIXED, RANKED)
        self.assertEqual(repr(wishes), ahead)
        self.assertEqual(RANKED, Ranked(LAST, [[1, 2], [2, 1]]))
