"""Words without a letter and silent letters, against writing letter by letter and two walkers side by side."""

from random import Random

from ringdepth.errors import InvalidLetter, NoWord
from ringdepth.guards import guard, hope
from ringdepth.machines import Machine
from ringdepth.plans import wish_of
from ringdepth.silent import are_alike_without, are_loud, is_silent, left_out, loud
from ringdepth.wishes import Wish
from ringdepth.words import Word
from tests import plain, plain_depth
from tests.cases import LAST, Case, drawn_wishes, granted, spread, turned_about

SEEN = Wish(Machine("ab", [[1, 0], [1, 1]]), [[1]])
BOTH = Wish(LAST, [[0, 1]])
EVERY_LETTER = "abcdefghijklmnopqrstuvwxyz"


def without(begin, lap, letter, number):
    """So many first letters of what is left of a word; None if no other letter comes again and again."""
    if not [each for each in lap if each != letter]:
        return None
    out = []
    for at in range(len(begin) + len(lap) * (number + 1)):
        each = begin[at] if at < len(begin) else lap[(at - len(begin)) % len(lap)]
        if each != letter and len(out) < number:
            out.append(each)
    return "".join(out)


def alike_plainly(one, other, letter):
    """Whether two words, told by begin and lap, are the same without a letter; None if one has no other letters."""
    enough = len(one[0]) + len(one[1]) * 2 + len(other[0]) + len(other[1]) * 2 + 2
    both = [without(*word, letter, enough) for word in (one, other)]
    return None if None in both else both[0] == both[1]


def is_silent_plainly(wish, letter):
    """Whether a letter is silent, by all pairs of places of two walkers who read the other letters together."""
    rows, letters = wish.machine.rows(), wish.letters
    others = [at for at, each in enumerate(letters) if each != letter]
    column = letters.index(letter)
    listed = [(one, other) for one in range(len(rows)) for other in range(len(rows))]
    numbers = {pair: number for number, pair in enumerate(listed)}
    joined = [[numbers[rows[one][at], rows[other][at]] for at in others] for one, other in listed]
    alone = [[numbers[rows[one][column], other], numbers[one, rows[other][column]]] for one, other in listed]
    steps = [first + second for first, second in zip(joined, alone)]
    met = plain.come_to(steps)
    kinds = plain_depth.ring_kinds(wish)
    for good in [ring for ring in kinds if kinds[ring]]:
        for bad in [ring for ring in kinds if not kinds[ring]]:
            inside = {number for number in met if listed[number][0] in good and listed[number][1] in bad}
            low = [[goal if goal in inside and number in inside else None for goal in row]
                   for number, row in enumerate(steps)]
            for kin in plain_depth.come_back(low):
                over = [{listed[number][side] for number in kin} for side in (0, 1)]
                if over == [set(good), set(bad)] and any(goal in kin for number in kin for goal in joined[number]):
                    return False
    return True


def are_loud_plainly(wish, letter, one, other):
    """Whether two words, told by begin and lap, show that a letter is loud."""
    return bool(alike_plainly(one, other, letter)) and granted(wish, *one) and not granted(wish, *other)


def some_words(random, letters, many):
    """So many begins and laps over the letters."""
    found = []
    for _ in range(many):
        begin = "".join(random.choice(letters) for _ in range(random.randrange(5)))
        found.append((begin, "".join(random.choice(letters) for _ in range(1 + random.randrange(6)))))
    return found


def stammered(random, begin, lap, letter):
    """A word that is the same without a letter, which is left out and put in here and there."""
    def once_more(text):
        return "".join(random.choice(["", letter, letter * 2]) + each if each != letter else random.choice(["", each])
                       for each in text) + random.choice(["", letter])
    turned = lap * random.choice([1, 1, 2])
    return once_more(begin + random.choice(["", turned])), once_more(turned)


def quiet_wishes(seed, many):
    """Tuples of a wish and a letter that is silent for it: it leads from each place to itself."""
    random = Random(seed)
    found = []
    for wish in drawn_wishes(seed, many)[::5]:
        rows, letters = wish.machine.rows(), wish.letters
        column = random.randrange(len(letters))
        quiet = [row[:column] + [place] + row[column + 1:] for place, row in enumerate(rows)]
        machine = Machine.come_to(letters, quiet)
        good = [ring for ring in plain.rings(machine.rows()) if random.randrange(2)]
        found.append((Wish(machine, good), letters[column]))
    return found


class LeftOutTest(Case):

    def test_by_writing_letter_by_letter(self):
        random = Random(1001)
        for number in range(700):
            letters = ["a", "ab", "abc", "xyz", "aqz", "abcdef"][number % 6]
            (begin, lap), = some_words(random, letters, 1)
            for letter in letters + "m":
                expected = without(begin, lap, letter, 40)
                word = Word(begin, lap)
                if expected is None:
                    self.fails_named(NoWord, {}, left_out, word=word, letter=letter)
                    continue
                found = left_out(word, letter)
                self.gives(found, left_out, word=word, letter=letter)
                self.assertIs(type(found), Word)
                self.assertEqual(found.first(40), expected)
                self.assertEqual((found.begin, found.lap), plain.plain_telling(
                    begin.replace(letter, ""), lap.replace(letter, "")))
                self.assertNotIn(letter, found)

    def test_long_words(self):
        most = Word.MOST_LETTERS
        far = Word("", "a" * (most - 1) + "b")
        self.assertEqual(left_out(far, "a"), Word("", "b"))
        self.assertEqual(left_out(far, "b"), Word("", "a"))
        self.assertEqual(left_out(Word("a" * most, "a" * (most - 1) + "b"), "a"), Word("", "b"))
        self.assertEqual(left_out(Word("a" * (most - 1) + "c", "a" * (most - 1) + "b"), "a"), Word("c", "b"))
        self.assertEqual(left_out(Word("ab" * (most // 2), "b" * 7999 + "c"), "b"), Word("a" * (most // 2), "c"))
        self.assertEqual(left_out(Word("a" * most, "b"), "c"), Word("a" * most, "b"))
        self.fails_named(NoWord, {}, left_out, word=Word("b" * most, "a"), letter="a")
        self.assertIs(are_alike_without(far, Word("", "b"), "a"), True)
        self.assertIs(are_alike_without(far, Word("c", "b"), "a"), False)
        self.assertIs(are_alike_without(Word("b" * most, "a" * 7999 + "b"), Word("", "ba"), "a"), True)

    def test_told_words(self):
        self.assertEqual(left_out(Word("ab", "abb"), "a"), Word("", "b"))
        self.assertEqual(left_out(Word("cab", "abb"), "b"), Word("c", "a"))
        self.assertEqual(left_out(Word("", "abcacb"), "a"), Word("", "bccb"))
        self.assertEqual(left_out(Word("", "abac"), "a"), Word("", "bc"))
        self.assertEqual(left_out(Word("x", "y"), "z"), Word("x", "y"))

    def test_any_letter(self):
        word = Word("ab", "abc")
        for letter in EVERY_LETTER:
            self.assertEqual(left_out(word, letter), Word("ab".replace(letter, ""), "abc".replace(letter, "")))
            self.assertIs(are_alike_without(word, word, letter), True)
        for value in plain.odd_values() + ["ab", "aa", " a", "a ", "\u00e4"]:
            if type(value) is not str or value not in ("a", "b"):
                self.fails_named(InvalidLetter, {"value": value}, left_out, word=word, letter=value)
                self.fails_named(InvalidLetter, {"value": value}, are_alike_without, one=word, other=word, letter=value)
                self.fails_named(InvalidLetter, {"value": value}, left_out, word=Word("", "a"), letter=value)

    def test_alike_without(self):
        random = Random(1003)
        answers = []
        for number in range(900):
            letters = ["ab", "abc", "xyz"][number % 3]
            (begin, lap), = some_words(random, letters, 1)
            letter = random.choice(letters)
            other = stammered(random, begin, lap, letter) if number % 2 else some_words(random, letters, 1)[0]
            if not other[1]:
                continue
            one = (begin, lap)
            expected = alike_plainly(one, other, letter)
            answers.append(expected)
            arguments = {"one": Word(*one), "other": Word(*other), "letter": letter}
            if expected is None:
                self.fails_named(NoWord, {}, are_alike_without, **arguments)
            else:
                self.gives(expected, are_alike_without, **arguments)
        self.assertGreater(min(answers.count(answer) for answer in (True, False, None)), 60)

    def test_no_word(self):
        some = Word("", "ab")
        for one, other in [(Word("b", "a"), some), (some, Word("b", "a")), (Word("", "a"), Word("", "a"))]:
            self.fails_named(NoWord, {}, are_alike_without, one=one, other=other, letter="a")
            self.fails_named(InvalidLetter, {"value": "A"}, are_alike_without, one=one, other=other, letter="A")
        self.assertIs(are_alike_without(Word("b", "a"), Word("", "a"), "c"), False)


class SilentTest(Case):

    def check_letter(self, wish, letter):
        """Whether the letter is silent, by two walkers; and what loud tells then."""
        expected = is_silent_plainly(wish, letter)
        self.gives(expected, is_silent, wish=wish, letter=letter)
        found = loud(wish, letter)
        self.gives(found, loud, wish=wish, letter=letter)
        if expected:
            self.assertIs(found, None)
        else:
            self.assertIs(type(found), tuple)
            self.assertEqual([type(word) for word in found], [Word, Word])
            one, other = [(word.begin, word.lap) for word in found]
            self.assertTrue(are_loud_plainly(wish, letter, one, other))
            self.assertTrue(set("".join(one + other)) <= set(wish.letters))
            self.gives(True, are_loud, wish=wish, letter=letter, value=found)
            self.assertLess(max(len(part) for part in one + other), 8000)
        return expected

    def test_drawn_wishes(self):
        answers = {}
        for wish in drawn_wishes(1011, 80):
            for letter in wish.letters:
                answer = self.check_letter(wish, letter)
                answers.setdefault((len(wish.letters), answer), set()).add(len(wish.machine))
        for letters in (2, 3):
            self.assertTrue({2, 3, 4, 5, 6} <= answers[letters, False])
            self.assertTrue({2, 3, 6} <= answers[letters, True])

    def test_wishes_with_a_quiet_letter(self):
        answers = []
        for wish, letter in quiet_wishes(1013, 40):
            # Both walkers are always at one place.
            self.assertIs(self.check_letter(wish, letter), True)
            answers.append(self.check_letter(~wish, letter))
            random = Random(len(answers))
            if len(wish.machine) < 6:
                self.assertIs(self.check_letter(spread(wish, random), letter), True)
        self.assertGreater(len(answers), 40)

    def test_against_words_that_are_alike(self):
        random = Random(1017)
        for wish in drawn_wishes(1019, 30, 3)[::4]:
            for letter in wish.letters:
                silent = is_silent(wish, letter)
                for begin, lap in some_words(random, wish.letters, 12):
                    other = stammered(random, begin, lap, letter)
                    if other[1] and alike_plainly((begin, lap), other, letter) and silent:
                        self.assertIs(granted(wish, begin, lap), granted(wish, *other))

    def test_the_only_letter(self):
        for wish in drawn_wishes(1021, 40):
            if len(wish.letters) == 1:
                self.assertIs(is_silent(wish, wish.letters), True)
                self.assertIs(loud(wish, wish.letters), None)

    def test_wishes_that_plans_tell(self):
        for letters, plan, silent in [
                ("ab", ("once", "a"), "b"), ("ab", ("once", "b"), "a"), ("ab", ("once", "ab"), "ab"), ("abc", ("once", "a"), "bc"),
                ("ab", ("always", "a"), "a"), ("abc", ("always", "ab"), "ab"), ("abc", ("again", "a"), "bc"),
                ("ab", ("again", "a"), "b"), ("abc", ("again", "ab"), "c"), ("ab", ("at last", "a"), "a"),
                ("abc", ("at last", "ac"), "ac"), ("xyz", ("and", ("again", "x"), ("again", "y")), "z"),
                ("abc", ("or", ("once", "a"), ("again", "b")), "c"), ("abc", ("not", ("at last", "b")), "b"),
                ("abc", ("once", ""), "abc"), ("abc", ("always", "abc"), "abc")]:
            wish = wish_of(letters, plan)
            found = "".join(letter for letter in letters if self.check_letter(wish, letter))
            self.assertEqual(found, silent, plan)

    def test_only_words_in_which_others_come_again(self):
        # They differ only where nothing but "a" comes at last, or where nothing else comes at all.
        machine = Machine("ab", [[1, 0], [2, 0], [2, 0]])
        wish = Wish(machine, [[2]])
        self.assertIs(self.check_letter(wish, "a"), True)
        self.assertIs(self.check_letter(wish, "b"), False)
        self.assertIs(self.check_letter(BOTH, "a"), False)
        self.assertIs(self.check_letter(wish_of("ab", ("at last", "a")), "a"), True)
        # The letter is read twice where the other walker does not read it: odd and even numbers of it are unlike.
        even = Machine("ab", [[1, 0], [0, 1]])
        self.assertIs(self.check_letter(Wish(even, [[0]]), "a"), False)
        self.assertIs(self.check_letter(Wish(even, [[0]]), "b"), True)
        self.assertIs(self.check_letter(Wish(even, [[0, 1]]), "a"), False)

    def test_same_wishes_have_the_same_silent_letters(self):
        random = Random(1031)
        for wish in drawn_wishes(1033, 30, 2)[::3]:
            same = [turned_about(wish, random), ~wish, ~~wish]
            if len(wish.machine) < 6:
                same.append(spread(wish, random))
            for other in same:
                self.assertEqual([is_silent(other, letter) for letter in wish.letters],
                                 [is_silent(wish, letter) for letter in wish.letters])

    def test_guards_and_hopes_keep_silent_letters(self):
        tried = 0
        for wish, letter in quiet_wishes(1039, 40):
            for made in (guard(wish), hope(wish)):
                tried += 1
                self.assertIs(is_silent_plainly(made, letter), is_silent(made, letter))
        self.assertGreater(tried, 40)

    def test_letters(self):
        for wish in (BOTH, SEEN, Wish(Machine("b", [[0]]), [])):
            for value in plain.odd_values() + ["c", "ab", "ba", "z", " a"]:
                if type(value) is str and len(value) == 1 and value in wish.letters:
                    continue
                self.fails_named(InvalidLetter, {"value": value}, is_silent, wish=wish, letter=value)
                self.fails_named(InvalidLetter, {"value": value}, loud, wish=wish, letter=value)
                for told in (None, (Word("", "ab"), Word("", "b"))):
                    self.fails_named(InvalidLetter, {"value": value}, are_loud, wish=wish, letter=value, value=told)
            self.assertIs(type(is_silent(wish, "b")), bool)


class AreLoudTest(Case):

    def test_tuples_of_words(self):
        random = Random(1049)
        answers = []
        for wish in drawn_wishes(1051, 40, 2)[::2]:
            for letter in wish.letters:
                for begin, lap in some_words(random, wish.letters, 6):
                    other = stammered(random, begin, lap, letter)
                    other = other if other[1] else ("", letter)
                    (third,) = some_words(random, wish.letters, 1)
                    for one, second in [((begin, lap), other), (other, (begin, lap)), ((begin, lap), (begin, lap)),
                                        ((begin, lap), third), (third, (begin, lap))]:
                        expected = are_loud_plainly(wish, letter, one, second)
                        self.gives(expected, are_loud, wish=wish, letter=letter, value=(Word(*one), Word(*second)))
                        answers.append(expected)
        self.assertGreater(answers.count(True), 100)
        self.assertGreater(answers.count(False), 1000)

    def test_any_value(self):
        right = (Word("a", "b"), Word("", "b"))
        self.gives(True, are_loud, wish=SEEN, letter="a", value=right)
        for value in plain.odd_values() + [list(right), right[::-1], right + right[:1], right[:1], (right,), (right, right),
                                           (right[0], right[0]), (Word("a", "b"), "b"), (("a", "b"), ("", "b")), Word("", "b"),
                                           (Word("a", "b"), Word("c", "b")), (Word("ac", "b"), Word("c", "b"))]:
            self.gives(False, are_loud, wish=SEEN, letter="a", value=value)
        for value in plain.odd_values():
            self.gives(False, are_loud, wish=SEEN, letter="a", value=(value, right[1]))
            self.gives(False, are_loud, wish=SEEN, letter="a", value=(right[0], value))

    def test_words_with_other_letters(self):
        right = (Word("a", "b"), Word("", "b"))
        for letter, value in [("a", (Word("a", "bc"), Word("", "bc"))), ("a", (Word("ca", "b"), Word("c", "b")))]:
            self.gives(False, are_loud, wish=SEEN, letter=letter, value=value)
        self.gives(False, are_loud, wish=SEEN, letter="b", value=right)

    def test_words_in_which_no_other_letter_comes_again(self):
        # Only one of these is granted, but without "a" nothing is left of them that never ends.
        last = wish_of("ab", ("at last", "a"))
        for value in [(Word("", "a"), Word("", "b")), (Word("", "a"), Word("", "ab")), (Word("b", "a"), Word("", "b")),
                      (Word("", "a"), Word("", "a"))]:
            self.gives(False, are_loud, wish=last, letter="a", value=value)
        self.gives(False, are_loud, wish=~last, letter="a", value=(Word("", "ab"), Word("", "a")))
        self.gives(True, are_loud, wish=~last, letter="b", value=(Word("", "ab"), Word("", "a")))


class UnchangedTest(Case):

    def test_calls_change_nothing(self):
        wishes = drawn_wishes(1061, 20)[::6]
        words = [Word("ab", "abc"), Word("", "ba"), Word("c", "ab")]
        ahead = repr((wishes, words))

        def ask(wish):
            return [(is_silent(wish, letter), loud(wish, letter), are_loud(wish, letter, loud(wish, letter)))
                    for letter in wish.letters] + [left_out(word, wish.letters[0]) for word in words]

        first = [ask(wish) for wish in wishes]
        self.assertEqual([ask(wish) for wish in wishes[::-1]][::-1], first)
        self.assertEqual(repr((wishes, words)), ahead)
