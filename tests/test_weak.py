"""Weak wishes: rows of parts, passes and the least machine, against all rows and the classes of alike places."""

from random import Random

from ringdepth.chains import depth, is_weak
from ringdepth.errors import NotWeak
from ringdepth.guards import guard, hope
from ringdepth.machines import Machine
from ringdepth.same import classes, is_same
from ringdepth.weak import is_least, is_row, least, passes, row
from ringdepth.wishes import Wish
from ringdepth.words import Word
from tests import plain, plain_depth
from tests.cases import LAST, TWO_TRIPLES, Case, drawn_wishes, granted, parted_machines, spread, turned_about

BOTH = Wish(LAST, [[0, 1]])
SEEN = Wish(Machine("ab", [[1, 0], [1, 1]]), [[1]])


def weak_wishes(seed, many):
    """Weak wishes: so many machines of several parts, and others, each part good or bad."""
    random = Random(seed)
    found = [wish for wish in drawn_wishes(seed, 20) if len({tuple(pair) for pair in conflicts(wish)}) == 0]
    for machine in parted_machines(random, many):
        rings = plain.rings(machine.rows())
        for _ in range(3):
            good_parts = [part for part in plain.greatest(rings) if random.randrange(2)]
            found.append(Wish(machine, [ring for ring in rings if any(set(ring) <= set(part) for part in good_parts)]))
    return found


def conflicts(wish):
    """The sorted list of all tuples (good ring, bad ring) of rings of one part."""
    kinds = plain_depth.ring_kinds(wish)
    found = plain_depth.parts(wish.machine.rows())
    return sorted((one, other) for part in found for one in kinds for other in kinds
                  if kinds[one] and not kinds[other] and set(one) | set(other) <= set(part))


def is_row_plainly(wish, value):
    """Whether a value is a row, by the document's words."""
    rows = wish.machine.rows()
    found = plain_depth.parts(rows)
    if type(value) not in (list, tuple) or not value:
        return False
    for part in value:
        if type(part) is not tuple or not all(type(place) is int for place in part) or part not in found:
            return False
    good = wish.good()
    return all((one in good) != (other in good) and set(other) <= plain.come_to(rows, one[0])
               for one, other in zip(value, value[1:]))


WISHES = weak_wishes(801, 90)
TWINS = Wish(Machine("ab", [[1, 2], [3, 4], [4, 3], [3, 3], [4, 4]]), [[3], [4]])


class RowsTest(Case):

    def test_passes_by_all_rows(self):
        found = set()
        for wish in WISHES:
            most = {True: 0, False: 0}
            for one in plain_depth.part_rows(wish):
                most[one[0] in wish.good()] = max(most[one[0] in wish.good()], len(one))
            self.gives((most[True], most[False]), passes, wish=wish)
            found.add((most[True], most[False]))
            for is_good in (True, False):
                told = row(wish, is_good)
                self.gives(told, row, wish=wish, is_good=is_good)
                self.assertIs(type(told), list)
                self.assertEqual(len(told), most[is_good])
                if told:
                    self.assertTrue(is_row_plainly(wish, told))
                    self.assertIs(told[0] in wish.good(), is_good)
                    self.gives(True, is_row, wish=wish, value=told)
        self.assertTrue({(1, 0), (0, 1), (1, 1), (1, 2), (2, 1), (2, 3), (3, 2)} <= found)

    def test_the_longest_rows(self):
        line = Machine("ab", [[place, min(place + 1, 5)] for place in range(6)])
        self.assertEqual(passes(Wish(line, [[0], [2], [4]])), (6, 5))
        self.assertEqual(row(Wish(line, [[0], [2], [4]]), True), [(place,) for place in range(6)])
        self.assertEqual(passes(Wish(line, [[1], [3], [5]])), (5, 6))
        self.assertEqual(passes(Wish(line, [[0], [1], [4]])), (4, 3))
        self.assertEqual(passes(Wish(line, plain.rings(line.rows()))), (1, 0))
        # Two ways part behind place 0, one from good to bad, the other one from bad to good.
        fork = Machine("ab", [[1, 3], [1, 2], [2, 2], [3, 4], [4, 4]])
        self.assertEqual(passes(Wish(fork, [[1], [4]])), (2, 2))
        self.assertEqual((row(Wish(fork, [[1], [4]]), True), row(Wish(fork, [[1], [4]]), False)),
                         ([(1,), (2,)], [(3,), (4,)]))
        # Places in no ring lie between these parts.
        way = Machine("ab", [[0, 1], [2, 2], [2, 3], [4, 4], [4, 5], [5, 5]])
        self.assertEqual(passes(Wish(way, [[0], [4]])), (4, 3))
        self.assertEqual(row(Wish(way, [[0], [4]]), False), [(2,), (4,), (5,)])

    def test_lists_that_may_be_rows(self):
        random = Random(809)
        answers = []
        for wish in WISHES[::4]:
            some = plain_depth.part_rows(wish)
            rings = plain.rings(wish.machine.rows())
            for _ in range(10):
                one = random.choice(some)
                other = list(one)
                other[random.randrange(len(one))] = random.choice(rings)
                for value in [one, one[::-1], one + [one[0]], one[1:], one[::2], other, other + [random.choice(rings)]]:
                    expected = is_row_plainly(wish, value)
                    answers.append(expected)
                    self.assertIs(is_row(wish, value), expected)
                    self.assertIs(is_row(wish, tuple(value)), expected)
        self.assertGreater(answers.count(True), 500)
        self.assertGreater(answers.count(False), 500)

    def test_is_row_for_any_value(self):
        others = [[(0,), (1,)], ((0,), (1,)), [(1,), (0,)], [(0,), (0,)], [(0,)], [(1,)], [[0], [1]], [(0,), [1]],
                  [(False,)],
                  [(0,), (True,)], [(False,), (1,)], [(0, 1)], [(2,)], [(0,), (1,), (0,)], {(0,): True}, [0, 1], "ab",
                  [(0,), None], [plain.Hostile()], [plain.Broken()], [(plain.Hostile(),)], [(0,), plain.Hostile()],
                  SEEN]
        for value in plain.odd_values() + others:
            self.gives(is_row_plainly(SEEN, value), is_row, wish=SEEN, value=value)
        self.assertIs(is_row(SEEN, [(0,), (1,)]), True)
        self.assertIs(is_row(SEEN, ((0,), (1,))), True)
        # Rings that are no parts make no row.
        wish = Wish(TWO_TRIPLES, [ring for ring in plain.rings(TWO_TRIPLES.rows()) if ring[0] < 3])
        self.assertIs(is_row(wish, [(0, 1, 2), (3, 4, 5)]), True)
        for value in [[(0, 1), (3, 4, 5)], [(0, 1, 2), (4,)], [(0,)], [(3, 4, 5), (0, 1, 2)]]:
            self.assertIs(is_row(wish, value), False)

    def test_same_wishes_have_the_same_passes(self):
        random = Random(811)
        for wish in WISHES[::2]:
            same = [turned_about(wish, random), least(wish)]
            if len(wish.machine) < 6:
                same.append(spread(wish, random))
            for other in same:
                self.assertEqual(passes(other), passes(wish))

    def test_not_turns_the_passes_about(self):
        for wish in WISHES:
            self.assertEqual(passes(~wish), passes(wish)[::-1])


class LeastTest(Case):

    def check_least(self, wish):
        """The least machine is that of the classes of alike places, numbered as come to."""
        kin = plain_depth.weak_classes(wish)
        rows = wish.machine.rows()
        home = {place: places for places in kin for place in places}
        order = [home[0]]
        for places in order:
            for goal in rows[places[0]]:
                if home[goal] not in order:
                    order.append(home[goal])
        expected = Machine(wish.letters, [[order.index(home[goal]) for goal in rows[places[0]]] for places in order])
        found = least(wish)
        self.gives(found, least, wish=wish)
        self.assertIs(type(found), Wish)
        self.assertEqual(found.machine, expected)
        self.gives(len(order) == len(rows), is_least, wish=wish)
        return found

    def test_by_classes_of_alike_places(self):
        sizes = []
        for wish in WISHES:
            found = self.check_least(wish)
            self.assertEqual(plain_depth.weak_classes(wish), classes(wish))
            self.assertIs(is_least(found), True)
            self.assertEqual(least(found), found)
            self.assertIs(is_weak(found), True)
            for begin, lap in plain.words(wish.letters, 1, 3):
                self.assertIs(granted(found, begin, lap), granted(wish, begin, lap))
            sizes.append((len(wish.machine), len(found.machine)))
        self.assertTrue({(6, 1), (6, 2), (6, 3), (6, 4), (6, 6), (5, 3), (1, 1)} <= set(sizes))

    def test_each_ring_of_it(self):
        for wish in WISHES[::3]:
            found = least(wish)
            self.assertIs(is_same(found, wish), True)
            for ring in plain.rings(found.machine.rows()):
                self.assertIs(is_same(found.turned([ring]), wish), False)

    def test_twins_of_places(self):
        random = Random(821)
        tried = 0
        for wish in WISHES:
            expected = least(wish)
            others = [turned_about(wish, random)]
            for small in (wish, expected):
                if len(small.machine) < 6:
                    others.append(spread(small, random))
                    if len(others[-1].machine) < 6:
                        others.append(spread(others[-1], random))
            for other in others:
                tried += len(other.machine) > len(expected.machine)
                self.assertEqual(least(other), expected)
                self.assertIs(is_least(other), len(other.machine) == len(expected.machine))
        self.assertGreater(tried, 300)

    def test_no_machine_has_fewer_places(self):
        wish = Wish(Machine("ab", [[1, 0], [2, 0], [2, 2]]), [[2]])
        self.assertIs(is_least(wish), True)
        for rows in [[[0, 0]], [[0, 1], [0, 1]], [[1, 0], [1, 1]], [[1, 1], [1, 0]], [[0, 1], [1, 1]],
                     [[1, 0], [0, 1]]]:
            wishes = [Wish(Machine("ab", rows), [])]
            for ring in plain.rings(rows):
                wishes += [other.turned([ring]) for other in wishes]
            self.assertNotIn(True, [is_same(wish, other) for other in wishes])

    def test_twins_that_are_told(self):
        self.assertEqual(least(TWINS), Wish(Machine("ab", [[0, 0]]), [[0]]))
        other = Wish(TWINS.machine, [[3]])
        self.assertEqual(least(other), other)
        self.assertIs(is_least(TWINS), False)
        self.assertIs(is_least(SEEN | SEEN), True)
        self.assertEqual(least(SEEN), SEEN)
        # A place in no ring that is like one in a ring goes into it.
        self.assertEqual(least(Wish(Machine("a", [[1], [1]]), [[1]])), Wish(Machine("a", [[0]]), [[0]]))

    def test_guards_and_hopes_are_weak(self):
        for wish in drawn_wishes(823, 30)[::3]:
            for made in (guard(wish), hope(wish)):
                self.assertIs(is_weak(made), True)
                self.check_least(made)


class NotWeakTest(Case):

    def test_the_least_tuple(self):
        tried = 0
        for wish in drawn_wishes(827, 60):
            found = conflicts(wish)
            self.assertIs(bool(found), not is_weak(wish))
            if found:
                tried += 1
                kept = {"one": found[0][0], "other": found[0][1]}
                for asked in (passes, least, is_least):
                    self.fails_named(NotWeak, kept, asked, wish=wish)
                for is_good in (True, False):
                    self.fails_named(NotWeak, kept, row, wish=wish, is_good=is_good)
                for value in [[found[0][0]], None, [], [(9,)]]:
                    self.fails_named(NotWeak, kept, is_row, wish=wish, value=value)
                self.assertGreater(max(depth(wish)), 1)
        self.assertGreater(tried, 200)

    def test_rings_that_do_not_lie_in_one_another(self):
        # Both rings lie in one part; neither lies in the other one, but their part must have one of both kinds.
        self.fails_named(NotWeak, {"one": (0,), "other": (0, 1)}, passes, wish=Wish(LAST, [[0], [1]]))
        self.fails_named(NotWeak, {"one": (0,), "other": (1,)}, passes, wish=Wish(LAST, [[0], [0, 1]]))
        self.fails_named(NotWeak, {"one": (0, 1), "other": (0,)}, least, wish=BOTH)
        # The first tuple is that of the least good ring, not that of the first part.
        machine = Machine("abc", [[0, 1, 2], [1, 3, 4], [2, 5, 2], [1, 3, 3], [4, 4, 4], [2, 5, 5]])
        wish = Wish(machine, [[0], [5], [1, 3], [3]])
        self.fails_named(NotWeak, {"one": (1, 3), "other": (1,)}, is_least, wish=wish)
        wish = Wish(machine, [[0], [2, 5]])
        self.fails_named(NotWeak, {"one": (2, 5), "other": (2,)}, is_least, wish=wish)

    def test_is_row_for_any_value(self):
        for value in plain.odd_values() + [[(0, 1)], [(0,)], ((0, 1),)]:
            self.fails_named(NotWeak, {"one": (0, 1), "other": (0,)}, is_row, wish=BOTH, value=value)


class UnchangedTest(Case):

    def test_lists_changed_behind(self):
        row(SEEN, False).append(1)
        row(SEEN, True).clear()
        self.assertEqual((row(SEEN, False), row(SEEN, True)), ([(0,), (1,)], [(1,)]))
        given = [(1,), (0,)]
        self.assertIs(is_row(SEEN, given), False)
        self.assertEqual(given, [(1,), (0,)])

    def test_calls_change_nothing(self):
        wishes = WISHES[::12]
        ahead = repr(wishes)
        asked = [passes, least, is_least, lambda wish: row(wish, True), lambda wish: row(wish, False),
                 lambda wish: is_row(wish, row(wish, True)), lambda wish: wish(Word.of(wish.letters))]
        first = [[ask(wish) for ask in asked] for wish in wishes]
        second = [[ask(wish) for ask in asked[::-1]][::-1] for wish in wishes[::-1]][::-1]
        self.assertEqual(first, second)
        self.assertRaises(NotWeak, least, BOTH)
        self.assertEqual(repr(wishes), ahead)
        self.assertEqual(BOTH, Wish(LAST, [[0, 1]]))
