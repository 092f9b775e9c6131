"""Mended wishes and bars, against turning all sets of rings and against the document's words."""

from itertools import combinations
from random import Random

from ringdepth.chains import is_again, is_at_last, is_weak
from ringdepth.errors import InvalidRings, InvalidSort
from ringdepth.machines import Machine
from ringdepth.mended import are_bars, bars, how_many_turned, is_mended, mended
from ringdepth.plans import wish_of
from ringdepth.wishes import Wish
from ringdepth.words import Word
from tests import plain, plain_depth
from tests.cases import LAST, TWO_TRIPLES, Case, drawn_wishes, rounds, spread

BOTH = Wish(LAST, [[0, 1]])
SORTS = ["again", "at last", "weak"]
BARRED = ["again", "at last"]
ASKED = {"again": is_again, "at last": is_at_last, "weak": is_weak}


def is_of_sort(kinds, sort):
    """Whether rings with these kinds are of a sort: no ring of one kind lies in one of the other one."""
    kind_within = {"again": [True], "at last": [False], "weak": [True, False]}[sort]
    return not any(set(one) < set(other) and kinds[one] in kind_within and kinds[other] != kinds[one]
                   for one in kinds for other in kinds)


def turned(kinds, rings):
    """The kinds with those of some rings turned."""
    return {ring: kinds[ring] != (ring in rings) for ring in kinds}


def fewest(kinds, sort):
    """The fewest rings that mend, by turning all sets of rings, fewer first."""
    for many in range(len(kinds) + 1):
        for rings in combinations(kinds, many):
            if is_of_sort(turned(kinds, rings), sort):
                return many
    raise AssertionError("never mended")


def is_bar(kinds, sort, one, other):
    """Whether two rings are a bar, by the document's words."""
    kind = sort == "again"
    return kinds[one] == kind and kinds[other] == (not kind) and set(one) < set(other)


def rarer(wish):
    """The sum, over the parts, of the lesser one of the numbers of good and of bad rings."""
    kinds = plain_depth.ring_kinds(wish)
    total = 0
    for part in plain_depth.parts(wish.machine.rows()):
        inner = [kinds[ring] for ring in kinds if set(ring) <= set(part)]
        total += min(inner.count(True), inner.count(False))
    return total


def many_wishes():
    """Wishes with many rings, their kinds drawn in several ways."""
    random = Random(1101)
    found = []
    for machine in rounds() + [TWO_TRIPLES]:
        rings = plain.rings(machine.rows())
        for odds in (2, 3, 7):
            found.append(Wish(machine, [ring for ring in rings if random.randrange(odds)]))
            found.append(Wish(machine, [ring for ring in rings if not random.randrange(odds)]))
        found.append(Wish(machine, [ring for ring in rings if len(ring) % 2]))
        found.append(Wish(machine, [ring for ring in rings if len(ring) % 3 == 0]))
        found.append(Wish(machine, [ring for ring in rings if len(ring) in (2, 3)]))
    return found


WISHES = drawn_wishes(1103, 40, 2) + many_wishes()


class MendedTest(Case):

    def check_mended(self, wish, sort):
        """What is told mends, by the document's words, and it is as many as are told."""
        found = mended(wish, sort)
        self.gives(found, mended, wish=wish, sort=sort)
        self.assertIs(type(found), list)
        self.assertEqual(found, sorted(set(found)))
        self.gives(len(found), how_many_turned, wish=wish, sort=sort)
        kinds = plain_depth.ring_kinds(wish)
        self.assertTrue(all(type(ring) is tuple and ring in kinds for ring in found))
        self.assertTrue(is_of_sort(turned(kinds, found), sort))
        self.gives(True, is_mended, wish=wish, sort=sort, rings=found)
        self.assertIs(ASKED[sort](wish.turned(found)), True)
        self.assertIs(found == [], is_of_sort(kinds, sort))
        self.assertIs(found == [], ASKED[sort](wish))
        return found

    def test_by_all_sets_of_rings(self):
        counts = set()
        for wish in drawn_wishes(1109, 90):
            if len(wish.machine) <= 3 or len(wish) <= 8:
                kinds = plain_depth.ring_kinds(wish)
                for sort in SORTS:
                    many = fewest(kinds, sort)
                    self.assertEqual(len(self.check_mended(wish, sort)), many)
                    counts.add((sort, many))
        self.assertTrue({(sort, many) for sort in SORTS for many in (0, 1, 2, 3)} <= counts)

    def test_as_many_as_bars(self):
        counts = set()
        for wish in WISHES:
            for sort in BARRED:
                found = self.check_mended(wish, sort)
                self.assertEqual(len(bars(wish, sort)), len(found))
                counts.add(len(found))
        self.assertTrue(set(range(12)) <= counts)

    def test_weak_by_parts(self):
        counts = set()
        for wish in WISHES:
            found = self.check_mended(wish, "weak")
            self.assertEqual(len(found), rarer(wish))
            counts.add(len(found))
        self.assertTrue(set(range(12)) <= counts)

    def test_not_changes_the_sorts_over(self):
        for wish in WISHES[::3]:
            self.assertEqual(how_many_turned(~wish, "again"), how_many_turned(wish, "at last"))
            self.assertEqual(how_many_turned(~wish, "weak"), how_many_turned(wish, "weak"))
            self.assertIs(is_mended(~wish, "at last", mended(wish, "again")), True)

    def test_told_wishes(self):
        self.assertEqual([how_many_turned(BOTH, sort) for sort in SORTS], [0, 1, 1])
        self.assertEqual([mended(BOTH, sort) for sort in SORTS], [[], [(0, 1)], [(0, 1)]])
        self.assertEqual([mended(~BOTH, sort) for sort in SORTS], [[(0, 1)], [], [(0, 1)]])
        every = Machine("abc", [[0, 1, 2]] * 3)
        mixed = Wish(every, [[0], [0, 1, 2]])
        self.assertEqual([how_many_turned(mixed, sort) for sort in SORTS], [1, 1, 2])
        self.assertEqual(mended(mixed, "again"), [(0,)])
        self.assertEqual(mended(mixed, "at last"), [(0, 1, 2)])
        two = Wish(TWO_TRIPLES, [[1], [4], [3, 4, 5]])
        self.assertEqual([how_many_turned(two, sort) for sort in SORTS], [fewest(plain_depth.ring_kinds(two), sort)
                                                                        for sort in SORTS])

    def test_rings_of_several_parts(self):
        # The parts lie in one another's numbers.
        machine = Machine("abc", [[0, 3, 1], [1, 2, 2], [1, 2, 2], [0, 3, 1]])
        wish = Wish(machine, [[3], [1]])
        self.assertEqual(mended(wish, "weak"), [(1,), (3,)])
        self.assertEqual(mended(~wish, "weak"), [(1,), (3,)])
        self.assertEqual(mended(Wish(machine, [[0, 3], [0], [2]]), "weak"), [(2,), (3,)])
        self.assertEqual(mended(Wish(machine, [[0, 3], [1, 2]]), "at last"), [(0, 3), (1, 2)])
        self.assertEqual(mended(Wish(machine, [[0], [1], [2], [3]]), "again"), [(0, 3), (1, 2)])

    def test_sorts_of_plans(self):
        for plan, sorts in [(("once", "a"), SORTS), (("always", "b"), SORTS), (("again", "a"), ["again"]),
                            (("at last", "a"), ["at last"]), (("and", ("again", "a"), ("again", "b")), ["again"]),
                            (("or", ("at last", "a"), ("at last", "b")), ["at last"])]:
            wish = wish_of("ab", plan)
            self.assertEqual([sort for sort in SORTS if how_many_turned(wish, sort) == 0], sorts, plan)

    def test_any_rings_that_are_turned(self):
        random = Random(1117)
        answers = []
        for wish in WISHES[::4]:
            kinds = plain_depth.ring_kinds(wish)
            for sort in SORTS:
                near = mended(wish, sort)
                tries = [[], list(kinds), near[1:], near + [ring for ring in kinds if ring not in near][:1],
                         [ring for ring in kinds if random.randrange(2)], tuple(near), near[::-1]]
                for rings in tries:
                    expected = is_of_sort(turned(kinds, rings), sort)
                    self.gives(expected, is_mended, wish=wish, sort=sort, rings=rings)
                    answers.append((sort, expected))
        for sort in SORTS:
            self.assertGreater(min(answers.count((sort, answer)) for answer in (True, False)), 50)

    def test_same_wishes_are_of_the_same_sorts(self):
        random = Random(1123)
        for wish in WISHES[::5]:
            if len(wish.machine) < 6:
                other = spread(wish, random)
                self.assertEqual([how_many_turned(other, sort) == 0 for sort in SORTS],
                                 [how_many_turned(wish, sort) == 0 for sort in SORTS])


class BarsTest(Case):

    def test_bars_apart(self):
        for wish in WISHES:
            kinds = plain_depth.ring_kinds(wish)
            for sort in BARRED:
                found = bars(wish, sort)
                self.gives(found, bars, wish=wish, sort=sort)
                self.assertIs(type(found), list)
                self.assertTrue(all(type(bar) is tuple and len(bar) == 2 for bar in found))
                self.assertTrue(all(is_bar(kinds, sort, *bar) for bar in found))
                flat = [ring for bar in found for ring in bar]
                self.assertEqual(len(flat), len(set(flat)))
                self.gives(True, are_bars, wish=wish, sort=sort, value=found)
                # No list has more, because each bar needs a turned ring of its own.
                self.assertEqual(len(found), len(mended(wish, sort)))

    def test_bars_of_the_contrary(self):
        for wish in WISHES[::3]:
            for sort, contrary in (BARRED, BARRED[::-1]):
                self.assertIs(are_bars(~wish, contrary, bars(wish, sort)), True)
                self.assertEqual(len(bars(~wish, contrary)), len(bars(wish, sort)))
                if bars(wish, sort):
                    self.assertIs(are_bars(~wish, sort, bars(wish, sort)), False)
                    self.assertIs(are_bars(wish, contrary, bars(wish, sort)), False)

    def test_drawn_lists(self):
        random = Random(1129)
        answers = []
        for wish in WISHES[::3]:
            kinds = plain_depth.ring_kinds(wish)
            for sort in BARRED:
                some = [(one, other) for one in kinds for other in kinds if is_bar(kinds, sort, one, other)]
                for _ in range(6):
                    value = random.sample(some, min(len(some), random.randrange(4)))
                    if random.randrange(4) == 0:
                        value.append((random.choice(list(kinds)), random.choice(list(kinds))))
                    value = random.choice([list, tuple])(value)
                    flat = [ring for bar in value for ring in bar]
                    expected = len(flat) == len(set(flat)) and all(is_bar(kinds, sort, *bar) for bar in value)
                    self.gives(expected, are_bars, wish=wish, sort=sort, value=value)
                    answers.append((expected, len(value) > 0))
        self.assertGreater(min(answers.count(one) for one in [(True, True), (False, True), (True, False)]), 40)

    def test_any_value(self):
        wish = Wish(Machine("abc", [[0, 1, 2]] * 3), [[0], [1], [2]])
        right = [((0,), (0, 1)), ((1,), (1, 2)), ((2,), (0, 1, 2))]
        self.gives(True, are_bars, wish=wish, sort="again", value=right)
        self.gives(True, are_bars, wish=wish, sort="again", value=tuple(right))
        self.gives(True, are_bars, wish=wish, sort="again", value=[])
        self.gives(True, are_bars, wish=wish, sort="at last", value=())
        for value in plain.odd_values():
            if type(value) not in (list, tuple) or len(value):
                self.gives(False, are_bars, wish=wish, sort="again", value=value)
            self.gives(False, are_bars, wish=wish, sort="again", value=right[:1] + [value])
            if type(value) is not tuple or value != (0, 1):
                self.gives(False, are_bars, wish=wish, sort="again", value=[((0,), value)])
            if type(value) is not tuple or value not in ((0,), (1,)) or type(value[0]) is not int:
                self.gives(False, are_bars, wish=wish, sort="again", value=[(value, (0, 1, 2))])
        for value in [[list(right[0])], [([0], (0, 1))], [((0,), [0, 1])], [((False,), (0, 1))], [((0,), (0, True))],
                      [((0,), (1, 0))], [((0,), (1, 2))], [((0, 1), (0,))], [((0,), (0,))], [((0,), (0, 1), (0, 1, 2))],
                      [((0,),)], right + right[:1], [((0,), (0, 1)), ((1,), (0, 1))], [((0,), (0, 1)), ((0,), (0, 2))],
                      [((0, 1), (0, 1, 2))], [((0,), (0, 3))], [((0,), (0, 0))], dict(right), set(right), None, True,
                      right[0], {}]:
            self.gives(False, are_bars, wish=wish, sort="again", value=value)
        self.gives(False, are_bars, wish=wish, sort="at last", value=right)
        self.gives(True, are_bars, wish=~wish, sort="at last", value=right)


class ErrorsTest(Case):

    def sorts_but(self, sorts):
        """Values that are none of these sorts."""
        return plain.odd_values() + [sort for sort in ["Again", "at  last", "atlast", "again ", "strong", "weak", "all",
                                                       ["again"], ("weak",), b"again", "at last", "again"]
                                     if sort not in sorts]

    def test_sorts(self):
        for value in self.sorts_but(SORTS):
            self.fails_named(InvalidSort, {"value": value}, how_many_turned, wish=BOTH, sort=value)
            self.fails_named(InvalidSort, {"value": value}, mended, wish=BOTH, sort=value)
            for rings in ([], None, [(5,)]):
                self.fails_named(InvalidSort, {"value": value}, is_mended, wish=BOTH, sort=value, rings=rings)
        for value in self.sorts_but(BARRED):
            self.fails_named(InvalidSort, {"value": value}, bars, wish=BOTH, sort=value)
            for told in ([], None, [((0,), (0, 1))]):
                self.fails_named(InvalidSort, {"value": value}, are_bars, wish=BOTH, sort=value, value=told)
        for sort in SORTS:
            self.assertIs(is_mended(BOTH, sort, [(0,), (1,)]), True)
        for sort in BARRED:
            self.assertIs(are_bars(BOTH, sort, bars(BOTH, sort)), True)

    def test_rings(self):
        for sort in SORTS:
            for value in plain.odd_values():
                if type(value) not in (list, tuple):
                    self.fails_named(InvalidRings, {"position": None}, is_mended, wish=BOTH, sort=sort, rings=value)
                if type(value) is not tuple or value not in [(0,), (1,), (0, 1)] or any(
                        type(place) is not int for place in value):
                    self.fails_named(InvalidRings, {"position": 0}, is_mended, wish=BOTH, sort=sort, rings=[value])
                    self.fails_named(InvalidRings, {"position": 2}, is_mended, wish=BOTH, sort=sort,
                                     rings=((0, 1), (0,), value, value))
            for rings, position in [([(0,), (0,)], 1), ([(0,), (1,), (0,)], 2), ([(0, 1), (2,), (0, 1)], 1),
                                    ([(1, 0)], 0), ([(0,), [1]], 1), ([(0,), (0, 1, 2)], 1), (((1,), (1,)), 1)]:
                self.fails_named(InvalidRings, {"position": position}, is_mended, wish=BOTH, sort=sort, rings=rings)
            self.assertIs(type(is_mended(BOTH, sort, ((1,), (0,)))), bool)


class UnchangedTest(Case):

    def test_lists_changed_behind(self):
        wish = Wish(Machine("abc", [[0, 1, 2]] * 3), [[0], [1], [2]])
        ahead = [mended(wish, "again"), mended(wish, "weak"), bars(wish, "again")]
        for found in [mended(wish, "again"), mended(wish, "weak"), bars(wish, "again")]:
            found.append(1)
            found[0] = None
        self.assertEqual([mended(wish, "again"), mended(wish, "weak"), bars(wish, "again")], ahead)
        given = [(2,), (0,)]
        is_mended(wish, "again", given)
        are_bars(wish, "again", given)
        self.assertEqual(given, [(2,), (0,)])

    def test_calls_change_nothing(self):
        wishes = WISHES[::9]
        ahead = repr(wishes)

        def ask(wish):
            return [(mended(wish, sort), how_many_turned(wish, sort)) for sort in SORTS] + [
                bars(wish, sort) for sort in BARRED] + [wish(Word.of(wish.letters))]

        first = [ask(wish) for wish in wishes]
        self.assertEqual([ask(wish) for wish in wishes[::-1]][::-1], first)
        self.assertEqual(repr(wishes), ahead)
