"""Machines and paired machines, against walks letter by letter and trials of all texts."""

from random import Random

from ringdepth.errors import (
    InvalidLetter, InvalidLetters, InvalidPlace, InvalidRows, InvalidText, InvalidWord, OtherLetters, TooMany,
)
from ringdepth.machines import Machine, paired
from ringdepth.words import Word
from tests import plain
from tests.cases import Case, random_rows, small_rows, some_machines, wide_rows

ROWS = [[0, 1], [0, 1]]


def no_letters():
    """Values that are not LETTERS."""
    right = ["a", "b", "ab", "abc"]
    return [value for value in plain.odd_values() if not (isinstance(value, str) and value in right)]


def no_places(many):
    """Values that are none of so many places."""
    return [value for value in plain.odd_values() + [many, many + 1, -many]
            if not (type(value) is int and 0 <= value < many)]


def tried_rows():
    """Rows with their letters: all small ones, and some of up to eight places."""
    random = Random(11)
    found = [("a", rows) for places in (1, 2, 3, 4) for rows in small_rows(places, "a")]
    found += [("xy", rows) for places in (1, 2) for rows in small_rows(places, "xy")]
    found += [("bd", rows) for rows in small_rows(3, "bd")[::7]]
    found += [("abc", rows) for rows in small_rows(2, "abc")[::5]]
    for number in range(60):
        letters = ["a", "ab", "abc"][number % 3]
        found.append((letters, wide_rows(random, 1 + number % 8, letters)))
    return found


class MakingTest(Case):

    def test_limit(self):
        self.assertEqual(Machine.MOST_PLACES, 120)
        self.assertEqual(Machine("a", [[0]]).MOST_PLACES, 120)

    def test_parts_of_it(self):
        for letters, rows in tried_rows():
            machine = Machine(letters, rows)
            self.assertEqual(machine.letters, letters)
            self.gives(rows, machine.rows)
            self.assertEqual(len(machine), len(rows))
            self.assertEqual(repr(machine), f"Machine({letters!r}, {rows!r})")
            self.assertEqual(Machine(rows=rows, letters=letters), machine)

    def test_tuples_in_the_place_of_lists(self):
        expected = Machine("ab", ROWS)
        for rows in [((0, 1), (0, 1)), [(0, 1), (0, 1)], ([0, 1], [0, 1]), [[0, 1], (0, 1)]]:
            for made in (Machine("ab", rows), Machine.come_to("ab", rows)):
                self.assertEqual(made, expected)
                self.gives(ROWS, made.rows)
                self.assertEqual(repr(made), "Machine('ab', [[0, 1], [0, 1]])")

    def test_letters_ahead_of_rows(self):
        for value in no_letters():
            for rows in [ROWS, None, [], [[1, 1]]]:
                self.fails_named(InvalidLetters, {"value": value}, Machine, letters=value, rows=rows)
                self.fails_named(InvalidLetters, {"value": value}, Machine.come_to, letters=value, rows=rows)

    def test_rows_that_are_no_list(self):
        for value in plain.odd_values():
            if not isinstance(value, (list, tuple)) or len(value) == 0:
                self.fails_named(InvalidRows, {"position": None}, Machine, letters="a", rows=value)
                self.fails_named(InvalidRows, {"position": None}, Machine.come_to, letters="a", rows=value)

    def test_each_element_of_the_rows(self):
        for value in plain.odd_values():
            is_row = isinstance(value, (list, tuple)) and len(value) == 1 and type(value[0]) is int
            for position in range(3):
                rows = [[1], [2], [0]]
                rows[position] = value
                if is_row and 0 <= value[0] < 3:
                    self.assertEqual(Machine.come_to("a", rows).letters, "a")
                else:
                    self.fails_named(InvalidRows, {"position": position}, Machine, letters="a", rows=rows)
                    self.fails_named(InvalidRows, {"position": position}, Machine.come_to, letters="a", rows=rows)

    def test_each_place_in_a_row(self):
        for value in no_places(2):
            for position in range(2):
                for at in range(2):
                    rows = [[1, 0], [0, 1]]
                    rows[position][at] = value
                    self.fails_named(InvalidRows, {"position": position}, Machine, letters="ab", rows=rows)
                    self.fails_named(InvalidRows, {"position": position}, Machine.come_to, letters="ab", rows=rows)

    def test_rows_of_other_lengths(self):
        for letters in ["a", "ab", "abc"]:
            for width in range(5):
                rows = [[1] * len(letters), [0] * width, [9]]
                position = 1 if width != len(letters) else 2
                self.fails_named(InvalidRows, {"position": position}, Machine, letters=letters, rows=rows)

    def test_the_first_wrong_element_decides(self):
        self.fails(InvalidRows, {"position": 1}, lambda: Machine("a", [[0], [True], [4], None]))
        self.fails(InvalidRows, {"position": 2}, lambda: Machine("a", [[0], [0], [4], None]))
        self.fails(InvalidRows, {"position": 3}, lambda: Machine("a", [[0], [0], [0], None]))
        self.fails(InvalidRows, {"position": 3}, lambda: Machine.come_to("a", [[0], [0], [0], None]))

    def test_places_that_are_not_come_to(self):
        self.fails_named(InvalidRows, {"position": 1}, Machine, letters="a", rows=[[0], [0]])
        self.fails_named(InvalidRows, {"position": 1}, Machine, letters="a", rows=[[2], [0], [2], [1]])
        self.fails_named(InvalidRows, {"position": 3}, Machine, letters="a", rows=[[2], [0], [1], [1]])
        self.fails_named(InvalidRows, {"position": 2}, Machine, letters="ab", rows=[[1, 0], [0, 1], [3, 2], [2, 3]])

    def test_come_to_against_all_texts(self):
        random = Random(3)
        for number in range(200):
            letters = ["a", "ab", "abc"][number % 3]
            places = 1 + number % 8
            rows = [[random.randrange(places) for _ in letters] for _ in range(places)]
            lost = sorted(set(range(places)) - plain.come_to(rows))
            if lost:
                self.fails(InvalidRows, {"position": lost[0]}, lambda: Machine(letters, rows))
            self.gives(Machine(letters, plain.numbered(rows, letters)[1]), Machine.come_to, letters=letters, rows=rows)

    def test_120_places_and_121(self):
        rows = [[(place + 1) % 120, 0] for place in range(120)]
        self.assertEqual(len(Machine("ab", rows)), 120)
        self.assertEqual(len(Machine.come_to("ab", rows)), 120)
        rows = [[(place + 1) % 121, 0] for place in range(121)]
        kept = {"what": "places", "limit": 120}
        self.fails_named(TooMany, kept, Machine, letters="ab", rows=rows)
        self.fails_named(TooMany, kept, Machine.come_to, letters="ab", rows=rows)

    def test_too_many_ahead_of_places_that_are_not_come_to(self):
        kept = {"what": "places", "limit": 120}
        self.fails_named(TooMany, kept, Machine, letters="a", rows=[[0]] * 121)
        # The rows that are handed in count, not the places that are come to.
        self.fails_named(TooMany, kept, Machine.come_to, letters="a", rows=[[0]] * 121)
        self.fails_named(InvalidRows, {"position": 1}, Machine, letters="a", rows=[[0]] * 120)
        self.assertEqual(Machine.come_to("a", [[0]] * 120), Machine("a", [[0]]))

    def test_wrong_rows_ahead_of_too_many(self):
        rows = [[0] for _ in range(121)]
        rows[120] = [121]
        for made in (Machine, Machine.come_to):
            self.fails_named(InvalidRows, {"position": 120}, made, letters="a", rows=rows)
            self.fails_named(InvalidLetters, {"value": "A"}, made, letters="A", rows=[[0]] * 121)
        rows[120] = [120]
        self.fails(TooMany, {"what": "places", "limit": 120}, lambda: Machine("a", rows))


class WalkingTest(Case):

    def test_goal(self):
        for letters, rows in tried_rows():
            machine = Machine(letters, rows)
            for place, row in enumerate(rows):
                for letter, goal in zip(letters, row):
                    self.gives(goal, machine.goal, place=place, letter=letter)

    def test_walk_and_goes(self):
        for letters, rows in tried_rows():
            machine = Machine(letters, rows)
            for text in plain.texts(letters, 3) + [letters * 9, letters[::-1] * 5]:
                walk = [plain.goes(rows, letters, 0, text[:many]) for many in range(len(text) + 1)]
                self.gives(walk, machine.walk, text=text)
                for place in range(len(rows)):
                    self.gives(plain.goes(rows, letters, place, text), machine.goes, place=place, text=text)

    def test_long_text(self):
        machine = Machine("ab", [[(place + 1) % 120, place] for place in range(120)])
        self.assertEqual(machine.goes(0, "a" * 8000), 8000 % 120)
        self.assertEqual(machine.goes(7, "ab" * 4000), 4007 % 120)
        self.assertEqual(machine.walk("b" * 500 + "a"), [0] * 501 + [1])

    def test_first_text(self):
        for letters, rows in tried_rows():
            machine = Machine(letters, rows)
            for place, text in plain.least_texts(rows, letters).items():
                self.gives(text, machine.first_text, place=place)

    def test_first_text_is_least_by_length_then_by_letters(self):
        self.assertEqual(Machine("ab", [[0, 1], [1, 1]]).first_text(0), "")
        self.assertEqual(Machine("ab", [[1, 2], [3, 0], [3, 0], [3, 3]]).first_text(3), "aa")
        self.assertEqual(Machine("ab", [[1, 2], [1, 1], [3, 2], [3, 3]]).first_text(3), "ba")
        self.assertEqual(Machine("ab", [[1, 2], [2, 1], [2, 2]]).first_text(2), "b")
        rows = [[(place + 1) % 120, 0] for place in range(120)]
        self.assertEqual(Machine("ax", rows).first_text(119), "a" * 119)

    def test_met(self):
        for letters, rows in tried_rows()[::2]:
            machine = Machine(letters, rows)
            for begin, lap in plain.words(letters, 2, 3):
                self.gives(plain.met(rows, letters, begin, lap), machine.met, word=Word(begin, lap))

    def test_met_by_long_words(self):
        random = Random(5)
        for letters, rows in tried_rows()[-30:]:
            begin = "".join(random.choice(letters) for _ in range(random.randrange(60)))
            lap = "".join(random.choice(letters) for _ in range(random.randrange(1, 60)))
            self.gives(plain.met(rows, letters, begin, lap), Machine(letters, rows).met, word=Word(begin, lap))
        machine = Machine("ab", [[(place + 1) % 120, place] for place in range(120)])
        self.assertEqual(machine.met(Word("aaa", "b" * 7999 + "a")), tuple(range(120)))
        self.assertEqual(machine.met(Word("a" * 8000, "b")), (8000 % 120,))
        self.assertEqual(machine.met(Word("a", "b" + "a" * 60)), tuple(range(120)))
        self.assertEqual(machine.met(Word("a", "b")), (1,))

    def test_met_leaves_out_what_comes_but_at_first(self):
        # Two laps are walked ahead of the circle, and the circle is two laps long.
        machine = Machine("a", [[1], [2], [3], [4], [5], [2]])
        self.assertEqual(machine.met(Word("", "a")), (2, 3, 4, 5))
        self.assertEqual(Machine("ab", ROWS).met(Word("bababab", "a")), (0,))

    def test_in(self):
        for machine in [Machine("a", [[0]]), Machine("ab", ROWS), Machine("a", [[1], [2], [0]])]:
            for value in plain.odd_values() + [3]:
                expected = type(value) is int and 0 <= value < len(machine)
                self.assertIs(value in machine, expected)

    def test_large_machines(self):
        random = Random(17)
        for places in (9, 40, 119, 120):
            for letters in ("a", "ab", "abc"):
                rows = wide_rows(random, places, letters)
                machine = Machine(letters, rows)
                self.assertEqual(len(machine), places)
                numbered = machine.numbered()
                for place in random.sample(range(places), 5):
                    text = machine.first_text(place)
                    self.assertEqual(plain.goes(rows, letters, 0, text), place)
                    self.assertLess(len(text), places)
                    self.assertIs(place in machine, True)
                    begun = machine.at(place)
                    self.assertEqual(len(begun), len(plain.come_to(rows, place)))
                    order = [machine.goes(place, begun.first_text(near)) for near in range(len(begun))]
                    self.assertEqual(begun.rows(), [[order.index(goal) for goal in rows[near]] for near in order])
                texts = [numbered.first_text(place) for place in range(places)]
                self.assertEqual(texts, sorted(texts, key=lambda text: (len(text), text)))
                begin = "".join(random.choice(letters) for _ in range(50))
                lap = "".join(random.choice(letters) for _ in range(9))
                self.gives(plain.met(rows, letters, begin, lap), machine.met, word=Word(begin, lap))
                self.assertNotIn(places, machine)
                self.fails(InvalidPlace, {"value": places}, lambda: machine.first_text(places))

    def test_not_iterated_needs_nothing_more(self):
        machine = Machine("ab", ROWS)
        self.assertRaises(TypeError, iter, machine)


class NumberingTest(Case):

    def test_numbered(self):
        for letters, rows in tried_rows():
            machine = Machine(letters, rows)
            self.gives(Machine(letters, plain.numbered(rows, letters)[1]), machine.numbered)
            self.assertEqual(machine.numbered().numbered(), machine.numbered())
            self.gives(rows, machine.rows)

    def test_at(self):
        for letters, rows in tried_rows():
            machine = Machine(letters, rows)
            for place in range(len(rows)):
                self.gives(Machine(letters, plain.numbered(rows, letters, place)[1]), machine.at, place=place)

    def test_numbered_renames(self):
        self.assertEqual(Machine("ab", [[2, 1], [0, 1], [2, 0]]).numbered(), Machine("ab", [[1, 2], [1, 0], [0, 2]]))

    def test_equal(self):
        machines = [Machine(letters, rows) for letters in ("ab", "ac") for rows in small_rows(2, "ab")]
        machines += [Machine("a", [[0]]), Machine("ab", [[0, 0]]), Machine("abc", [[0, 0, 0]])]
        for at, one in enumerate(machines):
            for near, other in enumerate(machines):
                self.assertIs(one == other, at == near)
                self.assertIs(one != other, at != near)
            self.assertIs(one == Machine(one.letters, one.rows()), True)
        for value in plain.odd_values()[:-1] + [ROWS, ("ab", ROWS), repr(machines[0]), Word("", "ab")]:
            self.assertIs(Machine("ab", ROWS) == value, False)
            self.assertIs(Machine("ab", ROWS) != value, True)


class WrongValuesTest(Case):

    def setUp(self):
        self.machine = Machine("bd", ROWS)

    def test_places(self):
        for value in no_places(2):
            kept = {"value": value}
            self.fails_named(InvalidPlace, kept, self.machine.goal, place=value, letter="b")
            self.fails_named(InvalidPlace, kept, self.machine.goal, place=value, letter=None)
            self.fails_named(InvalidPlace, kept, self.machine.goes, place=value, text="bd")
            self.fails_named(InvalidPlace, kept, self.machine.goes, place=value, text=None)
            self.fails_named(InvalidPlace, kept, self.machine.first_text, place=value)
            self.fails_named(InvalidPlace, kept, self.machine.at, place=value)

    def test_letters(self):
        for value in plain.odd_values() + ["bd", "db", "c", "e"]:
            if isinstance(value, str) and value in ["b", "d"]:
                self.assertEqual(self.machine.goal(0, value), 0)
            else:
                self.fails_named(InvalidLetter, {"value": value}, self.machine.goal, place=1, letter=value)

    def test_texts(self):
        others = ["a", "c", "bdc", "abd", "badb", "B", "b d", "b\n"]
        for value in plain.odd_values() + others:
            if isinstance(value, str) and value in ["", "b"]:
                self.assertEqual(len(self.machine.walk(value)), len(value) + 1)
            else:
                self.fails_named(InvalidText, {"value": value}, self.machine.walk, text=value)
                self.fails_named(InvalidText, {"value": value}, self.machine.goes, place=0, text=value)

    def test_words(self):
        others = [Word("a", "b"), Word("", "c"), Word("bd", "bdc"), Word("bcd", "b"), ("", "b"), "b"]
        for value in plain.odd_values() + others:
            self.fails_named(InvalidWord, {"value": value}, self.machine.met, word=value)
        self.assertEqual(self.machine.met(word=Word("b", "d")), (1,))


class PairedTest(Case):

    def second_reckoning(self, letters, one_rows, other_rows):
        """Numbers the pairs as they are come to, and tells their rows, both by lists of pairs alone."""
        found = [(0, 0)]
        for one, other in found:
            for goals in zip(one_rows[one], other_rows[other]):
                if goals not in found:
                    found.append(goals)
        rows = [[found.index(goals) for goals in zip(one_rows[one], other_rows[other])] for one, other in found]
        return Machine(letters, rows), found

    def test_paired(self):
        random = Random(23)
        for number in range(120):
            letters = ["a", "ab", "abc"][number % 3]
            one_rows = random_rows(random, 1 + random.randrange(8), letters)
            other_rows = random_rows(random, 1 + random.randrange(8), letters)
            expected = self.second_reckoning(letters, one_rows, other_rows)
            one, other = Machine(letters, one_rows), Machine(letters, other_rows)
            found = paired(one, other)
            self.assertEqual(found, expected)
            self.assertEqual((type(found), type(found[1]), type(found[1][0])), (tuple, list, tuple))
            self.assertEqual(paired(other=other, one=one), expected)
            for text in plain.texts(letters, 3):
                self.assertEqual(found[1][found[0].goes(0, text)], (one.goes(0, text), other.goes(0, text)))

    def test_all_small_ones(self):
        for one_rows in small_rows(2, "ab"):
            for other_rows in small_rows(2, "ab"):
                self.assertEqual(paired(Machine("ab", one_rows), Machine("ab", other_rows)),
                                 self.second_reckoning("ab", one_rows, other_rows))

    def test_other_letters(self):
        machines = [Machine("a", [[0]]), Machine("b", [[0]]), Machine("ab", [[0, 0]]), Machine("bc", [[0, 0]])]
        for one in machines:
            for other in machines:
                if one.letters != other.letters:
                    kept = {"one": one.letters, "other": other.letters}
                    self.fails_named(OtherLetters, kept, paired, one=one, other=other)

    def test_120_places_and_121(self):
        def circle(places):
            return Machine("a", [[(place + 1) % places] for place in range(places)])

        def turning(places, letter):
            rows = [[place, place] for place in range(places)]
            for place in range(places):
                rows[place][letter] = (place + 1) % places
            return Machine("ab", rows)

        self.assertEqual(len(paired(circle(8), circle(15))[0]), 120)
        self.assertEqual(len(paired(circle(119), circle(119))[1]), 119)
        self.assertEqual(len(paired(turning(10, 0), turning(12, 1))[0]), 120)
        kept = {"what": "places", "limit": 120}
        self.fails_named(TooMany, kept, paired, one=turning(11, 0), other=turning(11, 1))
        self.fails_named(TooMany, kept, paired, one=circle(120), other=circle(119))
        self.fails_named(TooMany, kept, paired, one=circle(11), other=circle(12))

    def test_other_letters_ahead_of_too_many(self):
        one = Machine("a", [[(place + 1) % 120] for place in range(120)])
        other = Machine("b", [[(place + 1) % 119] for place in range(119)])
        self.fails_named(OtherLetters, {"one": "a", "other": "b"}, paired, one=one, other=other)


class UnchangedTest(Case):

    def test_lists_changed_behind(self):
        rows = [[0, 1], [0, 1]]
        machine = Machine("ab", rows)
        other = Machine.come_to("ab", rows)
        rows[0][0] = 1
        rows.append([0, 0])
        machine.rows()[0][0] = 1
        machine.rows().append([0, 0])
        machine.walk("ab").append(7)
        self.assertEqual((machine.rows(), other.rows()), (ROWS, ROWS))
        self.assertIsNot(machine.rows(), machine.rows())
        self.assertIsNot(machine.rows()[0], machine.rows()[0])

    def test_returned_pairs_changed_behind(self):
        machine = Machine("ab", ROWS)
        found = paired(machine, machine)
        found[1].append(None)
        found[0].rows().append(None)
        self.assertEqual(paired(machine, machine), (machine, [(0, 0), (1, 1)]))

    def test_calls_change_nothing(self):
        for machine in some_machines(Random(29), 20, 6):
            ahead = repr(machine)
            word = Word(machine.letters, machine.letters[::-1])
            calls = [machine.rows, machine.numbered, lambda: machine.at(len(machine) - 1), lambda: machine.met(word),
                     lambda: machine.walk(machine.letters), lambda: machine.first_text(len(machine) - 1),
                     lambda: paired(machine, machine), lambda: machine.goes(0, ""), lambda: len(machine)]
            first = [call() for call in calls]
            self.assertEqual([call() for call in reversed(calls)], first[::-1])
            self.assertRaises(InvalidPlace, machine.at, -1)
            self.assertEqual(repr(machine), ahead)
            self.assertEqual(repr(word), repr(Word(machine.letters, machine.letters[::-1])))

    def test_letters_cannot_be_set(self):
        machine = Machine("ab", ROWS)
        self.assertRaises(AttributeError, setattr, machine, "letters", "cd")
        self.assertEqual(machine.letters, "ab")
