"""Plans: the wishes that they tell and the words that fit them, against the document's words letter by letter."""

from itertools import combinations
from random import Random

from ringdepth.chains import is_again, is_at_last, is_weak
from ringdepth.errors import InvalidLetters, InvalidPlan, InvalidWord, TooMany
from ringdepth.guards import is_guard, is_hope
from ringdepth.machines import Machine
from ringdepth.plans import fits_plan, is_plan, wish_of
from ringdepth.same import is_same
from ringdepth.weak import is_least, least
from ringdepth.wishes import Wish
from ringdepth.words import Word
from tests import plain, plain_depth
from tests.cases import LAST, Case, granted

WORDS = ["always", "once", "again", "at last"]
ALL_LETTERS = ["a", "ab", "abc", "xz", "mno"]

# Its machine has seven places; without the last part it has four.
TOO_GREAT = ("and", ("and", ("once", "b"), ("again", "ac")), ("once", "a"))


def some_of(letters):
    """All rising texts over the letters, the empty one, too."""
    return ["".join(taken) for many in range(len(letters) + 1) for taken in combinations(letters, many)]


def small_plans(letters):
    """All plans of one level."""
    return [(word, some) for word in WORDS for some in some_of(letters)]


def drawn_plan(random, letters, levels):
    """A random plan of at most so many levels."""
    if levels == 1 or random.randrange(5) == 0:
        return random.choice(small_plans(letters))
    word = random.choice(["and", "or", "not"])
    many = 1 if word == "not" else 2
    return (word,) + tuple(drawn_plan(random, letters, levels - 1) for _ in range(many))


def drawn_plans(seed, many, levels):
    """So many letters with a plan over them."""
    random = Random(seed)
    return [(letters, drawn_plan(random, letters, levels))
            for number in range(many) for letters in [ALL_LETTERS[number % 5]]]


def fits_plainly(plan, begin, lap):
    """Whether a word is as the plan tells, by all its letters and those that come again."""
    word, first = plan[:2]
    if word == "not":
        return not fits_plainly(first, begin, lap)
    if word in ("and", "or"):
        both = [fits_plainly(inner, begin, lap) for inner in plan[1:]]
        return min(both) if word == "and" else max(both)
    coming = set(plain.told(begin, lap, len(begin) + len(lap)))
    return {"always": coming <= set(first), "once": bool(coming & set(first)),
            "again": bool(set(lap) & set(first)), "at last": set(lap) <= set(first)}[word]


def small_wish(letters, word, some):
    """The Wish of a plan of one level, as the document tells its places and rings."""
    if word == "always":
        rows = [[int(letter not in some) for letter in letters], [1] * len(letters)]
        good = [(0,)]
    elif word == "once":
        rows = [[int(letter in some) for letter in letters], [1] * len(letters)]
        good = [(1,)]
    else:
        rows = [[int(letter in some) for letter in letters]] * 2
        good = [(1,), (0, 1)] if word == "again" else [(1,)]
    _, come = plain.numbered(rows, letters)
    return Wish(Machine(letters, come), [ring for ring in plain.rings(come) if ring in good])


def places_plainly(letters, plan):
    """The rows of the machine of a plan, and the greatest number of places of the machine of some "and" or "or"."""
    if plan[0] == "not":
        return places_plainly(letters, plan[1])
    if plan[0] in WORDS:
        return small_wish(letters, *plan).machine.rows(), 0
    one, most = places_plainly(letters, plan[1])
    other, more = places_plainly(letters, plan[2])
    if max(most, more) > 6:
        return one, max(most, more)
    rows, _ = plain.pairs(one, other)
    kept = sorted(plain.come_to(rows))
    if len(kept) > 6:
        return one, len(kept)
    _, come = plain.numbered([[kept.index(goal) for goal in rows[place]] for place in kept], letters)
    return come, max(most, more, len(come))


def is_plan_plainly(letters, value):
    """Whether a value is a plan, item by item."""
    if type(value) is not tuple or not value or type(value[0]) is not str:
        return False
    if value[0] in WORDS:
        return len(value) == 2 and type(value[1]) is str and value[1] in some_of(letters)
    many = {"and": 3, "or": 3, "not": 2}.get(value[0])
    return len(value) == many and all(is_plan_plainly(letters, inner) for inner in value[1:])


def words_for(random, letters, many):
    """So many begins and laps over the letters."""
    found = [("", letters), ("", letters[0]), (letters, letters[-1]), (letters[0], letters[-1])]
    for _ in range(many):
        begin = "".join(random.choice(letters) for _ in range(random.randrange(4)))
        found.append((begin, "".join(random.choice(letters) for _ in range(1 + random.randrange(4)))))
    return found


class WishOfTest(Case):

    def test_plans_of_one_level(self):
        for letters in ALL_LETTERS:
            for word, some in small_plans(letters):
                found = wish_of(letters, (word, some))
                self.assertIs(type(found), Wish)
                self.gives(small_wish(letters, word, some), wish_of, letters=letters, plan=(word, some))

    def test_as_the_document_lists_them(self):
        for plan, rows, good in [
                (("always", "a"), [[0, 1], [1, 1]], [(0,)]), (("always", "b"), [[1, 0], [1, 1]], [(0,)]),
                (("always", ""), [[1, 1], [1, 1]], []), (("always", "ab"), [[0, 0]], [(0,)]),
                (("once", "a"), [[1, 0], [1, 1]], [(1,)]), (("once", "b"), [[0, 1], [1, 1]], [(1,)]),
                (("once", ""), [[0, 0]], []), (("once", "ab"), [[1, 1], [1, 1]], [(1,)]),
                (("again", "a"), [[1, 0], [1, 0]], [(0, 1), (1,)]), (("again", "b"), [[0, 1], [0, 1]], [(0, 1), (1,)]),
                (("again", ""), [[0, 0]], []), (("again", "ab"), [[1, 1], [1, 1]], [(1,)]),
                (("at last", "a"), [[1, 0], [1, 0]], [(1,)]), (("at last", "b"), [[0, 1], [0, 1]], [(1,)]),
                (("at last", ""), [[0, 0]], []), (("at last", "ab"), [[1, 1], [1, 1]], [(1,)])]:
            found = wish_of("ab", plan)
            self.assertEqual((found.machine, found.good()), (Machine("ab", rows), good), plan)

    def test_joined_plans(self):
        tried = 0
        for letters, plan in drawn_plans(901, 400, 2):
            if plan[0] in WORDS or places_plainly(letters, plan)[1] > 6:
                continue
            tried += 1
            wishes = [wish_of(letters, inner) for inner in plan[1:]]
            if plan[0] == "not":
                expected = ~wishes[0]
            else:
                expected = wishes[0] & wishes[1] if plan[0] == "and" else wishes[0] | wishes[1]
            self.gives(expected, wish_of, letters=letters, plan=plan)
        self.assertGreater(tried, 200)

    def test_machines_of_joined_plans(self):
        for letters, plan in drawn_plans(907, 300, 3):
            rows, most = places_plainly(letters, plan)
            if most <= 6:
                self.assertEqual(wish_of(letters, plan).machine, Machine(letters, rows))

    def test_joined_wishes_are_told_by_joined_plans(self):
        random = Random(911)
        for number in range(150):
            letters = ALL_LETTERS[number % 5]
            one, other = drawn_plan(random, letters, 2), drawn_plan(random, letters, 1)
            if places_plainly(letters, ("and", one, other))[1] > 6:
                continue
            first, second = wish_of(letters, one), wish_of(letters, other)
            both, either = wish_of(letters, ("and", one, other)), wish_of(letters, ("or", one, other))
            neither = wish_of(letters, ("and", ("not", one), ("not", other)))
            self.assertIs(is_same(both, first & second), True)
            self.assertIs(is_same(either, ~neither), True)
            self.assertIs(is_same(wish_of(letters, ("and", one, ("not", other))), first - second), True)
            self.assertIs(both.is_within(first) and first.is_within(either), True)
            for begin, lap in words_for(random, letters, 6):
                kinds = granted(first, begin, lap), granted(second, begin, lap)
                self.assertEqual((granted(both, begin, lap), granted(either, begin, lap)), (min(kinds), max(kinds)))

    def test_sorts_of_small_plans(self):
        for letters in ALL_LETTERS:
            for word, some in small_plans(letters):
                wish = wish_of(letters, (word, some))
                if word == "always":
                    self.assertTrue(is_guard(wish) and is_weak(wish))
                if word == "once":
                    self.assertTrue(is_hope(wish) and is_weak(wish))
                if word == "again":
                    self.assertTrue(is_again(wish))
                    self.assertIs(is_at_last(wish), some in ("", letters))
                if word == "at last":
                    self.assertTrue(is_at_last(wish))
                    self.assertIs(is_again(wish), some in ("", letters))

    def test_least_machines_of_plans(self):
        seen = wish_of("ab", ("or", ("once", "a"), ("once", "a")))
        self.assertEqual(seen, wish_of("ab", ("once", "a")))
        self.assertIs(is_least(seen), True)
        for letters in ALL_LETTERS:
            every = wish_of(letters, ("or", ("once", letters[0]), ("not", ("once", letters[0]))))
            self.assertEqual((len(every.machine), least(every)), (
                2, Wish(Machine(letters, [[0] * len(letters)]), [[0]])))
            self.assertIs(is_least(every), False)
            for word, some in small_plans(letters):
                wish = wish_of(letters, (word, some))
                if is_weak(wish):
                    self.assertIs(is_least(wish), len(wish.machine) == 1 or (some not in ("", letters)))


class FitsTest(Case):

    def test_by_letters_and_by_wishes(self):
        random = Random(919)
        answers = []
        for letters, plan in drawn_plans(921, 500, 3) + drawn_plans(923, 100, 4):
            small = places_plainly(letters, plan)[1] <= 6
            wish = wish_of(letters, plan) if small else None
            for begin, lap in words_for(random, letters, 5):
                expected = fits_plainly(plan, begin, lap)
                self.gives(expected, fits_plan, letters=letters, plan=plan, word=Word(begin, lap))
                if small:
                    self.assertIs(granted(wish, begin, lap), expected)
                answers.append((small, expected))
        self.assertEqual(sorted(set(answers)), [(False, False), (False, True), (True, False), (True, True)])

    def test_all_plans_of_one_level(self):
        for letters in ALL_LETTERS:
            for begin, lap in plain.words(letters, 1, 2):
                for plan in small_plans(letters):
                    self.assertIs(fits_plan(letters, plan, Word(begin, lap)), fits_plainly(plan, begin, lap))
                    self.assertIs(granted(wish_of(letters, plan), begin, lap), fits_plainly(plan, begin, lap))

    def test_words_that_do_not_fit_the_letters(self):
        for letters, word in [("a", Word("", "ab")), ("a", Word("b", "a")), ("ab", Word("abc", "ab")),
                              ("xz", Word("x", "y"))]:
            self.fails_named(InvalidWord, {"value": word}, fits_plan, letters=letters, plan=("once", ""), word=word)
        for value in plain.odd_values() + [LAST, ("", "a")]:
            self.fails_named(InvalidWord, {"value": value}, fits_plan, letters="ab", plan=("once", "a"), word=value)
        self.assertIs(fits_plan("abc", ("once", "c"), Word("", "ab")), False)
        self.assertIs(fits_plan("abc", ("always", "ab"), Word("b", "a")), True)

    def test_a_plan_whose_machine_is_too_great(self):
        self.fails_named(TooMany, {"what": "places", "limit": 6}, wish_of, letters="abc", plan=TOO_GREAT)
        self.assertIs(fits_plan("abc", TOO_GREAT, Word("", "ab")), True)
        self.assertIs(fits_plan("abc", TOO_GREAT, Word("ab", "b")), False)


class IsPlanTest(Case):

    def test_plans(self):
        for letters, plan in drawn_plans(929, 200, 4):
            self.gives(True, is_plan, letters=letters, value=plan)

    def test_any_value(self):
        values = plain.odd_values() + [("always",), ("always", "a", "b"), ("not",), ("and", ("once", "a")), ["once", "a"],
                                       ("or",), ("", ""), ("once", None), ("never", "a"), "once", ("once", ["a"])]
        for letters in ALL_LETTERS:
            for value in values:
                self.gives(is_plan_plainly(letters, value), is_plan, letters=letters, value=value)

    def test_values_within(self):
        right = ("once", "a")
        for make in [lambda value: ("once", value), lambda value: ("again", value), lambda value: (value, "a"),
                     lambda value: ("not", value), lambda value: ("and", value, right),
                     lambda value: ("or", right, value), lambda value: ("not", ("or", right, ("not", value))),
                     lambda value: (value, right), lambda value: (value, right, right), lambda value: ("not", value, right),
                     lambda value: ("and", right, right, value), lambda value: ("at last", "a", value)]:
            for value in plain.odd_values() + [right, ["once", "a"], ("not", right), "not", "and", "or", "once"]:
                for letters in ("ab", "abc", "b"):
                    self.gives(is_plan_plainly(letters, make(value)), is_plan, letters=letters, value=make(value))

    def test_letters_of_plans(self):
        for some, right in [("", True), ("a", True), ("ac", True), ("abc", True), ("ca", False), ("aa", False),
                            ("aab", False), ("abcc", False), ("d", False), ("abd", False), ("A", False), ("a ", False),
                            (" ", False), ("-", False), ("ab\n", False), (b"a", False), (["a"], False), (("a",), False)]:
            for word in WORDS:
                self.gives(right, is_plan, letters="abc", value=(word, some))
                self.gives(right, is_plan, letters="abc", value=("not", ("and", (word, some), (word, ""))))
                if not right:
                    self.fails_named(InvalidPlan, {"value": (word, some)}, wish_of, letters="abc", plan=(word, some))

    def test_words_of_plans(self):
        for word in ["Once", "at  last", "atlast", "at last ", "", "and", "or", "not", "nor"]:
            self.gives(False, is_plan, letters="ab", value=(word, "a"))

    def test_no_lists(self):
        for value in [["once", "a"], ("not", ["once", "a"]), ["not", ("once", "a")], ("and", ("once", "a"), ["once", "a"])]:
            self.gives(False, is_plan, letters="ab", value=value)
            self.fails_named(InvalidPlan, {"value": value}, wish_of, letters="ab", plan=value)


class ErrorsTest(Case):

    def test_letters(self):
        for value in plain.odd_values() + ["abcd", "ba", "aa", "a b", ["a"], ("a", "b")]:
            if type(value) is str and value in ("a", "b", "ab", "abc"):
                continue
            self.fails_named(InvalidLetters, {"value": value}, is_plan, letters=value, value=("once", "a"))
            self.fails_named(InvalidLetters, {"value": value}, is_plan, letters=value, value=None)
            self.fails_named(InvalidLetters, {"value": value}, wish_of, letters=value, plan=("once", ""))
            self.fails_named(InvalidLetters, {"value": value}, wish_of, letters=value, plan=None)
            self.fails_named(InvalidLetters, {"value": value}, fits_plan, letters=value, plan=None, word=None)

    def test_plans(self):
        for value in plain.odd_values() + [("once", "d"), ("and", TOO_GREAT, ("once", "d")), ("not", TOO_GREAT, TOO_GREAT),
                                           ("or", ("once", "ba"), TOO_GREAT)]:
            self.fails_named(InvalidPlan, {"value": value}, wish_of, letters="abc", plan=value)
            for word in (None, Word("", "a"), Word("", "z")):
                self.fails_named(InvalidPlan, {"value": value}, fits_plan, letters="abc", plan=value, word=word)

    def test_too_many_places(self):
        counts = []
        for letters, plan in drawn_plans(937, 1000, 4):
            most = places_plainly(letters, plan)[1]
            if most > 6:
                self.fails_named(TooMany, {"what": "places", "limit": 6}, wish_of, letters=letters, plan=plan)
                self.assertIs(is_plan(letters, plan), True)
            else:
                self.assertLessEqual(len(wish_of(letters, plan).machine), 6)
            counts.append(most)
        for many in (0, 2, 3, 4, 5, 6, 7, 8):
            self.assertIn(many, counts)

    def test_just_at_the_limit(self):
        plan = ("or", ("once", "ab"), ("or", ("again", "ac"), ("once", "c")))
        self.assertEqual(len(wish_of("abc", plan).machine), 6)
        self.assertEqual(len(wish_of("abc", ("not", ("and", plan, plan))).machine), 6)
        self.assertEqual(places_plainly("abc", TOO_GREAT)[1], 7)
        for plan in [TOO_GREAT, ("or",) + TOO_GREAT[1:], ("not", TOO_GREAT), ("and", TOO_GREAT, ("always", "")),
                     ("or", ("once", "abc"), ("not", ("not", TOO_GREAT))), ("and", TOO_GREAT[2], TOO_GREAT[1])]:
            self.fails_named(TooMany, {"what": "places", "limit": 6}, wish_of, letters="abc", plan=plan)
            self.gives(True, is_plan, letters="abc", value=plan)


class UnchangedTest(Case):

    def test_calls_change_nothing(self):
        asked = drawn_plans(941, 60, 2)
        ahead = repr(asked)

        def ask(letters, plan):
            try:
                return repr(wish_of(letters, plan)), fits_plan(letters, plan, Word.of(letters))
            except TooMany as error:
                return error.limit, fits_plan(letters, plan, Word.of(letters))

        first = [ask(*one) for one in asked]
        second = [ask(*one) for one in asked[::-1]][::-1]
        self.assertEqual(first, second)
        self.assertEqual(repr(asked), ahead)

    def test_returned_lists_changed_behind(self):
        wish = wish_of("ab", ("again", "a"))
        wish.good().clear()
        wish.machine.rows()[0][0] = 0
        self.assertEqual(wish, wish_of("ab", ("again", "a")))
        self.assertEqual(plain_depth.ring_kinds(wish), {(0,): False, (0, 1): True, (1,): True})
