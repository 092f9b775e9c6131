"""Ranked machines and their own depth, against walking letter by letter and going through all loops."""

from random import Random

from ringdepth.errors import InvalidLetter, InvalidMachine, InvalidPlace, InvalidRanks, InvalidWord, TooMany
from ringdepth.machines import Machine
from ringdepth.ranked import Ranked, own_depth
from ringdepth.wishes import Wish
from ringdepth.words import Word
from tests import plain, plain_depth
from tests.cases import LAST, Case, ranked_rows, small_rows, some_machines, wide_rows

RANKED = Ranked(LAST, [[1, 2], [2, 1]])


def some_ranked(seed, many, places):
    """So many Rankeds of one place up to so many places, with few ranks and with many."""
    random = Random(seed)
    return [Ranked(machine, ranked_rows(random, machine.rows(), random.choice([0, 1, 2, 3, 5, 12])))
            for machine in some_machines(random, many, places)]


def wide_ranked(seed):
    """Rankeds of many places, up to 120, some of them with many parts."""
    random = Random(seed)
    found = []
    for places, letters in [(20, "ab"), (40, "abc"), (60, "ab"), (120, "a"), (120, "ab"), (120, "abc")]:
        rows = wide_rows(random, places, letters)
        # Steps that seldom lead back make many parts, and great loops within one another.
        near = [[min(place + 1, places - 1)] + [max(0, min(place - random.randrange(-2, 7), places - 1))
                                                 if place % 9 else min(place + 2, places - 1)
                                                 for _ in letters[1:]] for place in range(places)]
        for told in (rows, near):
            machine = Machine(letters, told)
            for most in (1, 4, 12):
                found.append(Ranked(machine, ranked_rows(random, told, most)))
            found.append(Ranked(machine, [[min(place // (places // 12 + 1), 12) for _ in letters]
                                          for place in range(places)]))
    return found


class MakingTest(Case):

    def test_parts_of_it(self):
        self.assertEqual((Ranked.MOST_RANK, RANKED.MOST_RANK), (12, 12))
        for ranked in some_ranked(401, 40, 6):
            machine, ranks = ranked.machine, ranked.ranks()
            for told in (ranks, tuple(ranks), [tuple(line) for line in ranks], tuple(tuple(line) for line in ranks)):
                made = Ranked(machine, told)
                self.gives(ranks, made.ranks)
                self.assertEqual(made.machine, machine)
                self.assertIs(type(made.machine), Machine)
                self.assertEqual(made.letters, machine.letters)
                self.assertEqual(repr(made), f"Ranked({machine!r}, {ranks!r})")
                self.assertTrue(made == ranked)
                self.assertEqual(Ranked(ranks=told, machine=machine), ranked)
                for place in range(len(machine)):
                    for column, letter in enumerate(machine.letters):
                        self.gives(ranks[place][column], made.rank, place=place, letter=letter)
        self.assertEqual(repr(RANKED), "Ranked(Machine('ab', [[0, 1], [0, 1]]), [[1, 2], [2, 1]])")

    def test_machine_that_is_none(self):
        for value in plain.odd_values() + [Word("", "a"), Wish(LAST, []), RANKED, [[0, 1], [0, 1]]]:
            for ranks in [[[1, 2], [2, 1]], None, [], [[13]]]:
                self.fails_named(InvalidMachine, {"value": value}, Ranked, machine=value, ranks=ranks)

    def test_ranks_that_are_no_list_of_so_many(self):
        wrong = [[[1, 2]], [[1, 2], [2, 1], [1, 1]], [], (), ([1, 2],), {0: [1, 2], 1: [2, 1]}, "12", [[13]],
                 [None] * 3]
        for value in plain.odd_values() + wrong:
            if not (type(value) in (list, tuple) and len(value) == 2):
                self.fails_named(InvalidRanks, {"position": None}, Ranked, machine=LAST, ranks=value)

    def test_each_line(self):
        wrong = [[1], [1, 2, 3], [], (1,), [1, True], [False, 1], [1, 13], [-1, 1], [1, None], ["1", 2], "12",
                 {0: 1, 1: 2}, [[1], 2], [1, plain.Hostile()], [1, plain.Broken()], [10 ** 20, 0]]
        for value in plain.odd_values() + wrong:
            right = type(value) in (list, tuple) and len(value) == 2 and all(
                type(rank) is int and 0 <= rank <= 12 for rank in value)
            for position in range(2):
                ranks = [[1, 2], [2, 1]]
                ranks[position] = value
                if right:
                    self.assertEqual(Ranked(LAST, ranks).ranks()[position], list(value))
                else:
                    self.fails_named(InvalidRanks, {"position": position}, Ranked, machine=LAST, ranks=ranks)
            if not right:
                self.fails_named(InvalidRanks, {"position": 0}, Ranked, machine=LAST, ranks=[value, [13]])

    def test_each_rank(self):
        machine = Machine("abc", [[1, 0, 2], [2, 2, 1], [0, 1, 2]])
        for value in [0, 1, 11, 12, 13, -1, 10 ** 20, True, False, None, "1", [1], (1,)]:
            for place in range(3):
                for column in range(3):
                    ranks = [[1, 2, 3], [4, 5, 6], [7, 8, 9]]
                    ranks[place][column] = value
                    if type(value) is int and 0 <= value <= 12:
                        self.assertEqual(Ranked(machine, ranks).rank(place, "abc"[column]), value)
                    else:
                        self.fails_named(InvalidRanks, {"position": place}, Ranked, machine=machine, ranks=ranks)

    def test_rank_of_steps_that_are_none(self):
        for value in plain.odd_values() + [2, "0", (0,)]:
            if not (type(value) is int and 0 <= value < 2):
                for letter in ["a", "c", None]:
                    self.fails_named(InvalidPlace, {"value": value}, RANKED.rank, place=value, letter=letter)
        for value in plain.odd_values() + ["c", "ab", "", "A"]:
            if not (type(value) is str and value in ("a", "b")):
                self.fails_named(InvalidLetter, {"value": value}, RANKED.rank, place=1, letter=value)

    def test_equal(self):
        machines = [LAST, Machine("ac", [[0, 1], [0, 1]]), Machine("ab", [[1, 0], [0, 1]]), Machine("a", [[0]])]
        found = [Ranked(machine, [[rank for _ in machine.letters] for _ in machine.rows()])
                 for machine in machines for rank in (0, 2)] + [RANKED]
        parts = [(repr(ranked.machine), ranked.ranks()) for ranked in found]
        for one, mine in zip(found, parts):
            for other, theirs in zip(found, parts):
                self.assertIs(one == other, mine == theirs)
                self.assertIs(one != other, mine != theirs)
        hostile = plain.Hostile()
        for value in plain.odd_values() + [LAST, [[1, 2], [2, 1]], (LAST, [[1, 2], [2, 1]]), repr(RANKED)]:
            if type(value) not in (type(hostile), plain.Broken):
                self.assertIs(RANKED == value, False)
                self.assertIs(RANKED != value, True)
        self.assertIs(Ranked(LAST, [[1, 2], [2, 1]]) == RANKED, True)


class AskingTest(Case):

    def test_words(self):
        for ranked in some_ranked(409, 50, 6):
            rows, letters, ranks = ranked.machine.rows(), ranked.letters, ranked.ranks()
            for begin, lap in plain.words(letters, 2, 3):
                expected = plain_depth.greatest_again(rows, letters, ranks, begin, lap)
                self.gives(expected, ranked.greatest, word=Word(begin, lap))
                self.gives(expected % 2 == 0, ranked, word=Word(begin, lap))

    def test_words_of_many_places_and_letters(self):
        random = Random(419)
        for ranked in wide_ranked(421):
            rows, letters, ranks = ranked.machine.rows(), ranked.letters, ranked.ranks()
            for many in (1, 2, 7):
                begin, lap = ("".join(random.choice(letters) for _ in range(many)) for _ in range(2))
                expected = plain_depth.greatest_again(rows, letters, ranks, begin, lap)
                self.assertEqual(ranked.greatest(Word(begin, lap)), expected)
                self.assertIs(ranked(Word(begin, lap)), expected % 2 == 0)
        begin, lap = ("".join(random.choice("ab") for _ in range(8000)) for _ in range(2))
        ranked = Ranked(LAST, [[0, 12], [3, 0]])
        self.assertEqual(ranked.greatest(Word(begin, lap)), 12)
        self.assertEqual(ranked.greatest(Word(begin, "a")), 0)
        self.assertEqual(ranked.greatest(Word("a" * 7999 + "b", "a" * 8000)), 0)

    def test_values_that_are_no_words(self):
        for value in plain.odd_values() + [Word("c", "a"), Word("", "ac"), Word("ab", "z"), LAST, RANKED, ("", "a")]:
            self.fails_named(InvalidWord, {"value": value}, RANKED.greatest, word=value)
            self.fails_named(InvalidWord, {"value": value}, RANKED, word=value)

    def test_used(self):
        for ranked in some_ranked(431, 60, 6) + wide_ranked(433):
            self.gives(plain_depth.used(ranked.machine.rows(), ranked.ranks()), ranked.used)

    def test_used_of_steps_out_of_parts(self):
        machine = Machine("ab", [[1, 1], [1, 2], [2, 2]])
        ranked = Ranked(machine, [[9, 8], [3, 7], [2, 2]])
        self.assertEqual(ranked.used(), [2, 3])
        # Both steps lie in the part, though no word makes the second one after the first one has ended.
        self.assertEqual(Ranked(LAST, [[12, 0], [5, 12]]).used(), [0, 5, 12])


class OtherTest(Case):

    def test_just_the_other_words(self):
        for ranked in some_ranked(439, 50, 5):
            if max(max(line) for line in ranked.ranks()) < 12:
                other = ~ranked
                self.assertIs(type(other), Ranked)
                self.assertEqual(other.machine, ranked.machine)
                self.assertEqual(other.ranks(), [[rank + 1 for rank in line] for line in ranked.ranks()])
                self.assertEqual(other.used(), [rank + 1 for rank in ranked.used()])
                for begin, lap in plain.words(ranked.letters, 1, 3):
                    self.assertIs(other(Word(begin, lap)), not ranked(Word(begin, lap)))

    def test_ranks_above_12(self):
        kept = {"what": "ranks", "limit": 12}
        for place in range(2):
            for column in range(2):
                ranks = [[0, 3], [11, 1]]
                ranks[place][column] = 12
                ranked = Ranked(LAST, ranks)
                self.fails(TooMany, kept, lambda: ~ranked)
                self.assertEqual(ranked.ranks(), ranks)
        # Ranks of steps that lie in no part count, too.
        ranked = Ranked(Machine("a", [[1], [1]]), [[12], [0]])
        self.fails(TooMany, kept, lambda: ~ranked)
        self.assertEqual((~Ranked(LAST, [[11, 11], [11, 0]])).ranks(), [[12, 12], [12, 1]])


class OwnDepthTest(Case):

    def test_all_loops_of_small_machines(self):
        random = Random(443)
        depths = []
        for letters, places in [("a", 1), ("a", 2), ("a", 3), ("ab", 1), ("ab", 2), ("ab", 3), ("abc", 1)]:
            found = small_rows(places, letters)
            for rows in found if len(found) < 12 else random.sample(found, 12 if places < 3 else 50):
                for most in (1, 2, 4, 12):
                    ranks = ranked_rows(random, rows, most)
                    expected = plain_depth.depth_by_loops(rows, ranks)
                    self.assertEqual(plain_depth.depth_by_ranks(rows, ranks), expected)
                    self.gives(expected, own_depth, ranked=Ranked(Machine(letters, rows), ranks))
                    depths.append(expected)
        self.assertTrue({(1, 0), (0, 1), (1, 1), (1, 2), (2, 1), (2, 3), (3, 2)} <= set(depths))

    def test_two_parts(self):
        ranked = Ranked(Machine("ab", [[1, 2], [1, 1], [2, 2]]), [[5, 7], [0, 1], [1, 2]])
        self.assertEqual(own_depth(ranked), (2, 2))
        self.assertEqual(plain_depth.depth_by_loops(ranked.machine.rows(), ranked.ranks()), (2, 2))

    def test_greater_machines(self):
        most = 0
        for ranked in some_ranked(449, 60, 6) + wide_ranked(457):
            expected = plain_depth.depth_by_ranks(ranked.machine.rows(), ranked.ranks())
            self.gives(expected, own_depth, ranked=ranked)
            self.assertLessEqual(abs(expected[0] - expected[1]), 1)
            most = max(most, *expected)
            if max(max(line) for line in ranked.ranks()) < 12:
                self.assertEqual(own_depth(~ranked), expected[::-1])
        self.assertGreater(most, 5)

    def test_all_thirteen_ranks(self):
        # A row of places with ways back and forth: each greater rank is that of a step farther on.
        rows = [[min(place + 1, 6), max(place - 1, 0)] for place in range(7)]
        ranks = [[2 * place, max(2 * place - 1, 0)] for place in range(7)]
        ranked = Ranked(Machine("ab", rows), ranks)
        self.assertEqual(plain_depth.depth_by_ranks(rows, ranks), own_depth(ranked))
        deep = Ranked(Machine("abc", [[place, min(place + 1, 12), max(place - 1, 0)] for place in range(13)]),
                      [[place, place, place] for place in range(13)])
        self.assertEqual(own_depth(deep), (13, 12))
        self.assertEqual(plain_depth.depth_by_ranks(deep.machine.rows(), deep.ranks()), (13, 12))


class UnchangedTest(Case):

    def test_lists_changed_behind(self):
        ranks = [[1, 2], [2, 1]]
        ranked = Ranked(LAST, ranks)
        ranks[0][0] = 7
        ranks.append([0, 0])
        self.assertEqual(ranked, RANKED)
        ranked.ranks()[1][1] = 9
        ranked.ranks().clear()
        ranked.used().append(5)
        ranked.machine.rows()[0].append(1)
        self.assertEqual((ranked, ranked.used(), ranked.ranks()), (RANKED, [1, 2], [[1, 2], [2, 1]]))

    def test_calls_change_nothing(self):
        found = some_ranked(461, 20, 6)
        ahead = repr(found)
        asked = [own_depth, Ranked.used, Ranked.ranks, lambda ranked: ranked.greatest(Word.of(ranked.letters)),
                 lambda ranked: ranked(Word.of(ranked.letters[0]))]
        first = [[ask(ranked) for ask in asked] for ranked in found]
        second = [[ask(ranked) for ask in asked[::-1]][::-1] for ranked in found[::-1]][::-1]
        self.assertEqual(first, second)
        self.assertRaises(InvalidPlace, found[0].rank, 9, "a")
        self.assertRaises(InvalidWord, found[0].greatest, None)
        self.assertEqual(repr(found), ahead)
