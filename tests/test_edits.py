"""Edits of wishes, against the document's words ring by ring and step by step."""

from random import Random

from ringdepth.chains import chain, depth, least_ranks
from ringdepth.edits import joined, redirected, renamed, split, without_letter
from ringdepth.errors import (
    InvalidLetter, InvalidLetters, InvalidPlace, InvalidSteps, NotComeTo, NotOne, NoWord, OtherGoals, TooMany,
)
from ringdepth.guards import guard, hope, lively
from ringdepth.judging import own_ranks, ranked_of, spoilers
from ringdepth.machines import Machine
from ringdepth.mended import mended
from ringdepth.nests import how_many_ways, nest
from ringdepth.plans import wish_of
from ringdepth.same import classes, is_same
from ringdepth.settled import answers, watcher
from ringdepth.silent import is_silent
from ringdepth.wishes import Wish
from tests import plain, plain_depth
from tests.cases import LAST, Case, drawn_wishes, granted, spread

BOTH = Wish(LAST, [[0, 1]])
SEEN = Wish(Machine("ab", [[1, 0], [1, 1]]), [[1]])
WISHES = drawn_wishes(1201, 60, 2)


def told_of(wish):
    """What several stages tell of a wish."""
    found = [depth(wish), least_ranks(wish), chain(wish, True), nest(wish), own_ranks(wish), spoilers(wish),
             answers(wish), watcher(wish), guard(wish), hope(wish), lively(wish), mended(wish, "again"),
             mended(wish, "weak"), classes(wish), [is_silent(wish, letter) for letter in wish.letters], wish.good()]
    return found + [ranked_of(wish) if how_many_ways(wish) <= 30 else None]


def made_at_once(wish):
    """The same wish, made anew of its letters, rows and good rings."""
    return Wish(Machine(wish.letters, wish.machine.rows()), wish.good())


def over(ring, places):
    """The sorted tuple of what stands in a list of places for those of a ring."""
    return tuple(sorted({places[place] for place in ring}))


def with_twins(seed, many):
    """Wishes in which some places have the same goals: rows that stand twice, and places that were split."""
    random = Random(seed)
    found = []
    for wish in drawn_wishes(seed, many):
        rows = wish.machine.rows()
        if len(rows) > 1 and random.randrange(2):
            rows[random.randrange(len(rows))] = list(random.choice(rows))
            machine = Machine.come_to(wish.letters, rows)
            rings = plain.rings(machine.rows())
            place = random.randrange(len(machine))
            found += [Wish(machine, [ring for ring in rings if random.randrange(2)]), Wish(machine, rings[:1]),
                      Wish(machine, [ring for ring in rings if place in ring])]
        elif len(rows) < 6:
            found.append(spread(wish, random))
    return found


def joined_plainly(wish, one, other):
    """The Wish in which two places are one; or the error and what it keeps, by the document's words."""
    rows = wish.machine.rows()
    low, high = min(one, other), max(one, other)
    stands = [low if place == high else place for place in range(len(rows))]
    if any(stands[rows[low][at]] != stands[rows[high][at]] for at in range(len(wish.letters))):
        return OtherGoals, {"one": one, "other": other}
    kinds = plain_depth.ring_kinds(wish)
    wrong = sorted((good, bad) for good in kinds for bad in kinds
                   if kinds[good] and not kinds[bad] and over(good, stands) == over(bad, stands))
    if wrong:
        return NotOne, {"one": wrong[0][0], "other": wrong[0][1]}
    left = [place for place in range(len(rows)) if place != high]
    order, found = plain.numbered([[left.index(stands[goal]) for goal in rows[place]] for place in left], wish.letters)
    old = [left[place] for place in order]
    images = {over(ring, stands): kinds[ring] for ring in kinds}
    rings = plain.rings(found)
    assert sorted(images) == sorted(over(ring, old) for ring in rings)
    return Wish(Machine(wish.letters, found), [ring for ring in rings if images[over(ring, old)]]), None


def split_plainly(wish, place, steps):
    """The Wish with a twin of a place; or the error and what it keeps, by the document's words."""
    rows = wish.machine.rows()
    twin = len(rows)
    for start, letter in steps:
        rows[start][wish.letters.index(letter)] = twin
    rows.append(list(rows[place]))
    lost = sorted(set(range(len(rows))) - plain.come_to(rows))
    if lost:
        return NotComeTo, {"place": lost[0]}
    if len(rows) > 6:
        return TooMany, {"what": "places", "limit": 6}
    kinds = plain_depth.ring_kinds(wish)
    old = list(range(twin)) + [place]
    return Wish(Machine(wish.letters, rows), [ring for ring in plain.rings(rows) if kinds[over(ring, old)]]), None


class RenamedTest(Case):

    def test_same_rows_and_kinds(self):
        for wish in WISHES:
            for letters in {1: ["a", "z"], 2: ["ab", "mz"], 3: ["abc", "bxy"]}[len(wish.letters)]:
                expected = Wish(Machine(letters, wish.machine.rows()), wish.good())
                self.gives(expected, renamed, wish=wish, letters=letters)
                found = renamed(wish, letters)
                self.assertIs(type(found), Wish)
                self.assertEqual(renamed(found, wish.letters), wish)
                names = dict(zip(wish.letters, letters))
                for begin, lap in plain.words(wish.letters, 1, 2):
                    new = ["".join(names[letter] for letter in text) for text in (begin, lap)]
                    self.assertIs(granted(found, *new), granted(wish, begin, lap))

    def test_told_as_made_at_once(self):
        for wish in WISHES[::6]:
            found = renamed(wish, {1: "k", 2: "kn", 3: "kno"}[len(wish.letters)])
            self.assertEqual(told_of(found), told_of(made_at_once(found)))
            self.assertEqual((depth(found), answers(found)), (depth(wish), answers(wish)))

    def test_letters(self):
        for value in plain.odd_values() + ["abc", "a", "abcd", "ba", "aa", "", "a b", "AB", ["a", "b"], ("a", "b"), "zy"]:
            if type(value) is not str or value != "ab":
                self.fails_named(InvalidLetters, {"value": value}, renamed, wish=BOTH, letters=value)
        self.assertEqual(renamed(BOTH, "xy"), Wish(Machine("xy", [[0, 1], [0, 1]]), [[0, 1]]))
        one = Wish(Machine("q", [[0]]), [[0]])
        self.assertEqual(renamed(one, "a"), Wish(Machine("a", [[0]]), [[0]]))
        self.fails_named(InvalidLetters, {"value": "ab"}, renamed, wish=one, letters="ab")


class WithoutLetterTest(Case):

    def test_places_and_kinds(self):
        fewer = 0
        for wish in WISHES:
            for at, letter in enumerate(wish.letters):
                if len(wish.letters) == 1:
                    self.fails_named(NoWord, {}, without_letter, wish=wish, letter=letter)
                    continue
                rows = [row[:at] + row[at + 1:] for row in wish.machine.rows()]
                letters = wish.letters.replace(letter, "")
                order, found = plain.numbered(rows, letters)
                fewer += len(order) < len(rows)
                kinds = plain_depth.ring_kinds(wish)
                good = [ring for ring in plain.rings(found) if kinds[over(ring, order)]]
                self.gives(Wish(Machine(letters, found), good), without_letter, wish=wish, letter=letter)
                for begin, lap in plain.words(letters, 1, 3):
                    self.assertIs(granted(without_letter(wish, letter), begin, lap), granted(wish, begin, lap))
        self.assertGreater(fewer, 50)

    def test_told_as_made_at_once(self):
        for wish in WISHES[::6]:
            if len(wish.letters) > 1:
                found = without_letter(wish, wish.letters[-1])
                self.assertEqual(told_of(found), told_of(made_at_once(found)))

    def test_letters(self):
        self.assertEqual(without_letter(SEEN, "a"), Wish(Machine("b", [[0]]), []))
        self.assertEqual(without_letter(SEEN, "b"), Wish(Machine("a", [[1], [1]]), [[1]]))
        self.assertEqual(without_letter(BOTH, "a"), Wish(Machine("b", [[1], [1]]), []))
        for wish in (BOTH, Wish(Machine("a", [[0]]), [])):
            for value in plain.odd_values() + ["c", "z", "ab", " "]:
                if type(value) is not str or value not in ("a", "b") or value not in wish.letters:
                    self.fails_named(InvalidLetter, {"value": value}, without_letter, wish=wish, letter=value)


class JoinedTest(Case):

    def test_all_pairs_of_places(self):
        random = Random(1211)
        found = []
        for wish in WISHES[::2] + with_twins(1213, 90):
            many = len(wish.machine)
            for one in range(many):
                for other in range(many):
                    if one != other and (one < other or random.randrange(3) == 0):
                        found.append(self.check_joined(wish, one, other))
        for kind in (Wish, OtherGoals, NotOne):
            self.assertGreater(found.count(kind), 60, kind)

    def check_joined(self, wish, one, other):
        """The joined wish or the error is that of the document's words."""
        expected, kept = joined_plainly(wish, one, other)
        if kept is not None:
            self.fails_named(expected, kept, joined, wish=wish, one=one, other=other)
            return expected
        self.gives(expected, joined, wish=wish, one=one, other=other)
        self.assertEqual(len(expected.machine), len(wish.machine) - 1)
        self.assertIs(is_same(expected, wish), True)
        for begin, lap in plain.words(wish.letters, 1, 2):
            self.assertIs(granted(joined(wish, one, other), begin, lap), granted(wish, begin, lap))
        return Wish

    def test_told_as_made_at_once(self):
        tried = 0
        for wish in with_twins(1217, 60):
            for one in range(len(wish.machine)):
                for other in range(one):
                    if tried < 60 and joined_plainly(wish, one, other)[1] is None:
                        found = joined(wish, one, other)
                        self.assertEqual(told_of(found), told_of(made_at_once(found)))
                        tried += 1
        self.assertEqual(tried, 60)

    def test_told_wishes(self):
        wide = wish_of("ab", ("and", ("again", "a"), ("again", "b")))
        self.assertEqual(joined(wide, 0, 1), BOTH)
        self.assertEqual(joined(wide, 1, 0), BOTH)
        # Places that lead to one another, and to themselves, may be one.
        turn = Wish(Machine("ab", [[1, 0], [0, 1]]), [[0], [1], [0, 1]])
        self.assertEqual(joined(turn, 1, 0), Wish(Machine("ab", [[0, 0]]), [[0]]))
        self.fails_named(NotOne, {"one": (0,), "other": (0, 1)}, joined, wish=Wish(turn.machine, [[0], [1]]), one=0, other=1)
        self.fails_named(NotOne, {"one": (0, 1), "other": (0,)}, joined, wish=Wish(turn.machine, [[0, 1]]), one=1, other=0)
        self.fails_named(NotOne, {"one": (1,), "other": (0,)}, joined, wish=Wish(turn.machine, [[1]]), one=1, other=0)
        self.fails_named(NotOne, {"one": (1,), "other": (0,)}, joined, wish=SEEN, one=0, other=1)
        unlike = Wish(Machine("ab", [[1, 2], [1, 1], [2, 1]]), [[1]])
        self.fails_named(OtherGoals, {"one": 2, "other": 0}, joined, wish=unlike, one=2, other=0)
        self.fails_named(OtherGoals, {"one": 0, "other": 1}, joined, wish=unlike, one=0, other=1)
        self.fails_named(NotOne, {"one": (1,), "other": (2,)}, joined, wish=unlike, one=2, other=1)
        # Behind the joined places the others are numbered as they are come to then.
        wish = Wish(Machine("ab", [[2, 1], [3, 3], [3, 3], [0, 3]]), [[3]])
        self.assertEqual(joined(wish, 2, 1), Wish(Machine("ab", [[1, 1], [2, 2], [0, 2]]), [[2]]))

    def test_places(self):
        for wish in (BOTH, SEEN):
            for value in plain.odd_values() + [-1, 3, "0", (0,)]:
                if type(value) is not int or value not in (0, 1):
                    for right in (0, 1, 7, None):
                        self.fails_named(InvalidPlace, {"value": value}, joined, wish=wish, one=value, other=right)
                    self.fails_named(InvalidPlace, {"value": value}, joined, wish=wish, one=1, other=value)
            for place in (0, 1):
                self.fails_named(InvalidPlace, {"value": place}, joined, wish=wish, one=place, other=place)


class SplitTest(Case):

    def draw_steps(self, random, wish, place):
        """Some of the steps that lead to a place, in any sequence; each of them with its letter."""
        rows = wish.machine.rows()
        steps = [(start, letter) for start, row in enumerate(rows) for letter, goal in zip(wish.letters, row)
                 if goal == place]
        return random.sample(steps, random.randrange(len(steps) + 1))

    def test_drawn_steps(self):
        random = Random(1223)
        found = []
        for wish in WISHES:
            for _ in range(3):
                place = random.randrange(len(wish.machine))
                steps = random.choice([list, tuple])(self.draw_steps(random, wish, place))
                expected, kept = split_plainly(wish, place, steps)
                if kept is not None:
                    self.fails_named(expected, kept, split, wish=wish, place=place, steps=steps)
                    found.append((expected, kept.get("place") == place))
                    continue
                found.append((Wish, True))
                self.gives(expected, split, wish=wish, place=place, steps=steps)
                self.assertIs(is_same(expected, wish), True)
                self.assertEqual(joined(expected, place, len(wish.machine)), wish.at(0))
                self.assertEqual(joined(expected, len(wish.machine), place), wish.at(0))
                for begin, lap in plain.words(wish.letters, 1, 2):
                    self.assertIs(granted(expected, begin, lap), granted(wish, begin, lap))
        for kind, many in [((Wish, True), 200), ((NotComeTo, True), 20), ((NotComeTo, False), 60), ((TooMany, False), 60)]:
            self.assertGreater(found.count(kind), many, kind)

    def test_told_as_made_at_once(self):
        random = Random(1229)
        tried = 0
        for wish in WISHES[::3]:
            place = random.randrange(len(wish.machine))
            steps = self.draw_steps(random, wish, place)
            if split_plainly(wish, place, steps)[1] is None:
                found = split(wish, place, steps)
                self.assertEqual(told_of(found), told_of(made_at_once(found)))
                tried += 1
        self.assertGreater(tried, 20)

    def test_told_wishes(self):
        self.assertEqual(split(SEEN, 1, [(0, "a")]), Wish(Machine("ab", [[2, 0], [1, 1], [1, 1]]), [[1]]))
        # The twin has the goals that the place has then: a told step of the place to itself leads to the twin.
        self.assertEqual(split(SEEN, 0, [(0, "b")]), Wish(Machine("ab", [[1, 2], [1, 1], [1, 2]]), [[1]]))
        self.assertEqual(split(SEEN, 1, [(1, "b")]), Wish(Machine("ab", [[1, 0], [1, 2], [1, 2]]), [[1], [1, 2], [2]]))
        self.assertEqual(split(BOTH, 0, [(1, "a")]).good(), [(0, 1, 2), (1, 2)])
        self.fails_named(NotComeTo, {"place": 2}, split, wish=SEEN, place=1, steps=[])
        self.fails_named(NotComeTo, {"place": 1}, split, wish=SEEN, place=1, steps=[(0, "a"), (1, "a"), (1, "b")])
        self.assertEqual(len(split(SEEN, 1, [(0, "a"), (1, "a")]).machine), 3)
        self.assertEqual(len(split(BOTH, 0, [(0, "a"), (1, "a")]).machine), 3)

    def test_steps(self):
        for value in plain.odd_values():
            if type(value) not in (list, tuple):
                self.fails_named(InvalidSteps, {"position": None}, split, wish=SEEN, place=1, steps=value)
            self.fails_named(InvalidSteps, {"position": 0}, split, wish=SEEN, place=1, steps=[value, value])
            self.fails_named(InvalidSteps, {"position": 1}, split, wish=SEEN, place=1, steps=((0, "a"), value))
            self.fails_named(InvalidSteps, {"position": 0}, split, wish=SEEN, place=1, steps=[(0, value)] if (
                type(value) is not str or value != "a") else [(0, "b")])
            if type(value) is not int or value not in (0, 1):
                self.fails_named(InvalidSteps, {"position": 0}, split, wish=SEEN, place=1, steps=[(value, "a")])
        for steps, position in [([[0, "a"]], 0), ([(0, "b")], 0), ([(1, "a"), (0, "a"), (1, "a")], 2), ([(0, "a", "a")], 0),
                                ([("a", 0)], 0), ([(0, "c")], 0), ([(2, "a")], 0), ([(False, "a")], 0), ([(True, "a")], 0),
                                ([(0,)], 0), ([(1, "b"), (1, "b")], 1), ([(1, "a"), (0, "ab")], 1), ([(0, "")], 0)]:
            self.fails_named(InvalidSteps, {"position": position}, split, wish=SEEN, place=1, steps=steps)

    def test_sequence_of_errors(self):
        six = Wish(Machine("ab", [[(place + 1) % 6, 0] for place in range(6)]), [])
        for value in plain.odd_values() + [2]:
            if type(value) is not int or value not in (0, 1):
                for steps in (None, [], [(0, "a")]):
                    self.fails_named(InvalidPlace, {"value": value}, split, wish=SEEN, place=value, steps=steps)
        self.fails_named(InvalidSteps, {"position": 1}, split, wish=six, place=1, steps=[(0, "a"), (0, "b")])
        self.fails_named(NotComeTo, {"place": 6}, split, wish=six, place=1, steps=[])
        self.fails_named(NotComeTo, {"place": 1}, split, wish=six, place=1, steps=[(0, "a")])
        self.fails_named(TooMany, {"what": "places", "limit": 6}, split, wish=six, place=0, steps=[(5, "a")])
        five = Wish(Machine("ab", [[(place + 1) % 5, 0] for place in range(5)]), [])
        self.assertEqual(len(split(five, 0, [(4, "a")]).machine), 6)


class RedirectedTest(Case):

    def test_drawn_steps(self):
        random = Random(1231)
        found = []
        for wish in WISHES:
            rows = wish.machine.rows()
            for _ in range(4):
                place, goal = random.randrange(len(rows)), random.randrange(len(rows))
                letter = random.choice(wish.letters)
                told = {"wish": wish, "place": place, "letter": letter, "goal": goal}
                new = [list(row) for row in rows]
                new[place][wish.letters.index(letter)] = goal
                lost = sorted(set(range(len(rows))) - plain.come_to(new))
                if lost:
                    self.fails_named(NotComeTo, {"place": lost[0]}, redirected, **told)
                    found.append((NotComeTo, len(lost) > 1))
                    continue
                rings = plain.rings(new)
                good = [ring for ring in rings if ring in wish.good()]
                found.append((Wish, any(ring not in plain.rings(rows) for ring in rings)))
                self.gives(Wish(Machine(wish.letters, new), good), redirected, **told)
                self.assertEqual(redirected(**told).good(), good)
        for kind in [(NotComeTo, True), (NotComeTo, False), (Wish, True), (Wish, False)]:
            self.assertGreater(found.count(kind), 20, kind)

    def test_told_as_made_at_once(self):
        for wish in WISHES[::6]:
            found = redirected(wish, len(wish.machine) - 1, wish.letters[-1], 0) if plain.come_to(
                wish.machine.rows()[:-1] + [wish.machine.rows()[-1][:-1] + [0]]) == set(range(len(wish.machine))) else wish
            self.assertEqual(told_of(found), told_of(made_at_once(found)))

    def test_told_wishes(self):
        self.assertEqual(redirected(BOTH, 0, "a", 0), BOTH)
        self.assertEqual(redirected(BOTH, 1, "a", 1), Wish(Machine("ab", [[0, 1], [1, 1]]), []))
        self.assertEqual(redirected(SEEN, 1, "b", 0), Wish(Machine("ab", [[1, 0], [1, 0]]), [[1]]))
        self.fails_named(NotComeTo, {"place": 1}, redirected, wish=SEEN, place=0, letter="a", goal=0)

    def test_sequence_of_errors(self):
        for value in plain.odd_values() + [2]:
            if type(value) is not int or value not in (0, 1):
                for letter, goal in [("a", 0), ("z", 9), (None, None)]:
                    self.fails_named(InvalidPlace, {"value": value}, redirected, wish=SEEN, place=value, letter=letter, goal=goal)
                self.fails_named(InvalidPlace, {"value": value}, redirected, wish=SEEN, place=0, letter="a", goal=value)
            if type(value) is not str or value not in ("a", "b"):
                for goal in (0, 9, None):
                    self.fails_named(InvalidLetter, {"value": value}, redirected, wish=SEEN, place=0, letter=value, goal=goal)


class UnchangedTest(Case):

    def test_lists_changed_behind(self):
        steps = [(0, "a")]
        found = split(SEEN, 1, steps)
        steps.append((1, "a"))
        found.good().clear()
        found.machine.rows()[0][0] = 0
        self.assertEqual(found, Wish(Machine("ab", [[2, 0], [1, 1], [1, 1]]), [[1]]))
        self.assertEqual(steps, [(0, "a"), (1, "a")])

    def test_calls_change_nothing(self):
        wishes = WISHES[::8]
        ahead = repr(wishes)

        def ask(wish):
            out = []
            for call in [lambda: renamed(wish, wish.letters), lambda: without_letter(wish, wish.letters[0]),
                         lambda: joined(wish, 0, len(wish.machine) - 1), lambda: split(wish, 0, []),
                         lambda: redirected(wish, 0, wish.letters[0], 0)]:
                try:
                    out.append(repr(call()))
                except (NoWord, OtherGoals, NotOne, InvalidPlace, NotComeTo) as error:
                    out.append((type(error), vars(error)))
            return out

        first = [ask(wish) for wish in wishes]
        self.assertEqual([ask(wish) for wish in wishes[::-1]][::-1], first)
        self.assertEqual(repr(wishes), ahead)
