"""Chains, the depth and what shows a chain, against going through all rings and all chains of rings."""

from random import Random

from ringdepth.chains import chain, depth, is_again, is_at_last, is_chain, is_shown, is_weak, least_ranks, shown
from ringdepth.errors import InvalidChain
from ringdepth.machines import Machine, paired
from ringdepth.wishes import Wish
from tests import plain, plain_depth
from tests.cases import (
    LAST, TWO_TRIPLES, Case, drawn_wishes, rounds, small_rows, some_machines, spread, turned_about,
)

BOTH = Wish(LAST, [[0, 1]])
WISHES = drawn_wishes(211, 40)


def is_chain_plainly(kinds, value):
    """Whether a value is a chain, by the document's words."""
    if type(value) not in (list, tuple) or not value:
        return False
    for ring in value:
        if type(ring) is not tuple or not all(type(place) is int for place in ring) or ring not in kinds:
            return False
    return all(kinds[one] != kinds[other] and set(one) < set(other) for one, other in zip(value, value[1:]))


def is_shown_plainly(wish, kinds, value):
    """Whether a value shows a chain, letter by letter."""
    if type(value) is not tuple or len(value) != 2 or type(value[0]) is not str:
        return False
    text, laps = value
    if type(laps) not in (list, tuple) or not all(type(lap) is str and lap for lap in laps):
        return False
    if not set("".join([text, *laps])) <= set(wish.letters):
        return False
    rows = wish.machine.rows()
    place = plain.goes(rows, wish.letters, 0, text)
    rings = []
    for lap in laps:
        walked = {plain.goes(rows, wish.letters, place, lap[:many]) for many in range(len(lap) + 1)}
        if plain.goes(rows, wish.letters, place, lap) != place:
            return False
        rings.append(tuple(sorted(walked)))
    return is_chain_plainly(kinds, rings)


class DepthTest(Case):

    def check_wish(self, wish):
        """All numbers and bools that are told of a wish."""
        kinds = plain_depth.ring_kinds(wish)
        good, bad = plain_depth.longest(kinds)
        self.gives((good, bad), depth, wish=wish)
        self.gives(plain_depth.least_ranks((good, bad)), least_ranks, wish=wish)
        pairs = [(kinds[one], kinds[other]) for one in kinds for other in kinds if set(one) < set(other)]
        self.gives((True, False) not in pairs, is_again, wish=wish)
        self.gives((False, True) not in pairs, is_at_last, wish=wish)
        found = plain_depth.parts(wish.machine.rows())
        one_kind = all(len({kinds[ring] for ring in kinds if set(ring) <= set(part)}) == 1 for part in found)
        self.gives(one_kind, is_weak, wish=wish)
        return good, bad

    def test_drawn_wishes(self):
        depths = {self.check_wish(wish) for wish in WISHES}
        self.assertTrue({(1, 0), (0, 1), (1, 1), (1, 2), (2, 1), (2, 2), (2, 3), (3, 2)} <= depths)
        self.assertGreater(max(max(found) for found in depths), 4)
        for good, bad in depths:
            self.assertLessEqual(abs(good - bad), 1)
            self.assertNotEqual((good, bad), (0, 0))

    def test_all_wishes_of_small_machines(self):
        for letters, places in [("a", 1), ("a", 2), ("a", 3), ("ab", 1), ("ab", 2), ("abc", 2)]:
            for rows in small_rows(places, letters)[::1 if places < 3 else 3]:
                wishes = [Wish(Machine(letters, rows), [])]
                for ring in plain.rings(rows):
                    wishes += [wish.turned([ring]) for wish in wishes]
                for wish in wishes:
                    self.check_wish(wish)

    def test_the_greatest_depths(self):
        # In a row of places with ways back and forth rings of each number of places lie within one another.
        row = Machine("abc", [[max(place - 1, 0), min(place + 1, 5), place] for place in range(6)])
        found = plain.rings(row.rows())
        self.assertEqual(self.check_wish(Wish(row, [ring for ring in found if len(ring) % 2])), (6, 5))
        self.assertEqual(self.check_wish(Wish(row, [ring for ring in found if len(ring) % 2 == 0])), (5, 6))

    def test_two_parts(self):
        found = plain.rings(TWO_TRIPLES.rows())
        cases = [(1, 0, (3, 3), 4), (1, 1, (3, 2), 3), (0, 0, (2, 3), 3)]
        for first, second, expected, many in cases:
            good = [ring for ring in found if len(ring) % 2 == (first if ring[0] < 3 else second)]
            wish = Wish(TWO_TRIPLES, good)
            self.assertEqual(self.check_wish(wish), expected)
            self.assertEqual(least_ranks(wish), many)

    def test_not_turns_the_depth_about(self):
        for wish in WISHES:
            self.assertEqual(depth(~wish), depth(wish)[::-1])
            self.assertEqual(least_ranks(~wish), least_ranks(wish))

    def test_weak_is_both(self):
        for wish in WISHES:
            self.assertIs(is_weak(wish), is_again(wish) and is_at_last(wish))
            self.assertIs(is_again(wish), depth(wish)[0] <= 1)
            self.assertIs(is_at_last(wish), depth(wish)[1] <= 1)

    def test_one_depth_whatever_the_machine(self):
        random = Random(223)
        others = some_machines(Random(227), 30, 3)
        tried = 0
        for wish in WISHES[::3]:
            same = [turned_about(wish, random)]
            if len(wish.machine) < 6:
                same.append(spread(wish, random))
            for machine in [machine for machine in others if machine.letters == wish.letters][:3]:
                if len(paired(machine, wish.machine)[0]) <= 6:
                    granted_all = Wish(machine, plain.rings(machine.rows()))
                    same += [granted_all & wish, wish & granted_all, ~granted_all | wish]
            for other in same:
                tried += len(other.machine) != len(wish.machine)
                self.assertEqual(depth(other), depth(wish))
                self.assertEqual(least_ranks(other), least_ranks(wish))
                self.assertEqual((is_again(other), is_at_last(other), is_weak(other)),
                                 (is_again(wish), is_at_last(wish), is_weak(wish)))
        self.assertGreater(tried, 40)


class ChainTest(Case):

    def test_longest_chains(self):
        for wish in WISHES:
            kinds = plain_depth.ring_kinds(wish)
            for is_good, many in zip((True, False), plain_depth.longest(kinds)):
                found = chain(wish, is_good)
                self.gives(found, chain, wish=wish, is_good=is_good)
                self.assertIs(type(found), list)
                self.assertEqual(len(found), many)
                if many:
                    self.assertTrue(is_chain_plainly(kinds, found))
                    self.assertIs(kinds[found[0]], is_good)
                    self.gives(True, is_chain, wish=wish, value=found)
                else:
                    self.assertEqual(found, [])
                    self.assertNotIn(is_good, kinds.values())

    def test_all_chains_are_chains(self):
        for wish in WISHES[::5]:
            for one in plain_depth.chains(plain_depth.ring_kinds(wish))[:200]:
                self.assertIs(is_chain(wish, one), True)
                self.assertIs(is_chain(wish, tuple(one)), True)

    def test_lists_that_may_be_chains(self):
        random = Random(229)
        answers = []
        for wish in WISHES:
            kinds = plain_depth.ring_kinds(wish)
            found = list(kinds) + [(), (6,), (0, 1, 2, 3, 4, 5), tuple(range(len(wish.machine)))]
            some = plain_depth.chains(kinds)
            for _ in range(12):
                one = random.choice(some)
                other = list(one)
                other[random.randrange(len(one))] = random.choice(found)
                drawn = sorted([random.choice(found) for _ in range(1 + random.randrange(3))], key=len)
                for value in [one[::-1], one + [one[-1]], [one[0]] + one, one[1:], one[:-1], one[::2], other, drawn]:
                    expected = is_chain_plainly(kinds, value)
                    answers.append(expected)
                    self.assertIs(is_chain(wish, value), expected)
                    self.assertIs(is_chain(wish, tuple(value)), expected)
        self.assertGreater(answers.count(True), 500)
        self.assertGreater(answers.count(False), 500)

    def test_is_chain_for_any_value(self):
        kinds = plain_depth.ring_kinds(BOTH)
        others = [BOTH, LAST, [(0,), (0, 1)], ((0,), (0, 1)), [[0], [0, 1]], [(0,), [0, 1]], [[0], (0, 1)], [(False,)],
                  [(False,), (0, 1)], [(0,), (False, 1)], [(0,), (0, True)], [(1,), (0, True)], [(True,), (0, 1)],
                  [(0,), (1, 0)], [(0, 1), (0,)], [(0,), (1,)], [(0, 1)], [(1,)], [(2,)], [(0,), (0, 1), (0, 1, 2)],
                  [(0,), (0, 1), None], [None, (0, 1)], {(0,): True}, "ab", [plain.Hostile()], [plain.Broken()],
                  [(plain.Hostile(),)], [(plain.Broken(),)], [(0,), plain.Hostile()], [({},)], [([0],)], (0, 1)]
        for value in plain.odd_values() + others:
            self.gives(is_chain_plainly(kinds, value), is_chain, wish=BOTH, value=value)
        self.assertIs(is_chain(BOTH, [(0,), (0, 1)]), True)
        self.assertIs(is_chain(BOTH, ((1,), (0, 1))), True)
        self.assertIs(is_chain(BOTH, [(0,), (False, 1)]), False)


class ShownTest(Case):

    def test_chains_are_shown(self):
        for wish in WISHES:
            kinds = plain_depth.ring_kinds(wish)
            some = [chain(wish, True), chain(wish, False)] + plain_depth.chains(kinds)[::17]
            for one in [one for one in some if one]:
                found = shown(wish, one)
                self.gives(found, shown, wish=wish, chain=one)
                self.assertEqual(shown(wish, tuple(one)), found)
                self.assertIs(type(found), tuple)
                self.assertIs(type(found[1]), list)
                text, laps = found
                rows = wish.machine.rows()
                place = plain.goes(rows, wish.letters, 0, text)
                for ring, lap in zip(one, laps):
                    walked = {plain.goes(rows, wish.letters, place, lap[:many]) for many in range(len(lap))}
                    self.assertNotEqual(lap, "")
                    self.assertEqual(plain.goes(rows, wish.letters, place, lap), place)
                    self.assertEqual(tuple(sorted(walked)), ring)
                self.assertEqual(len(laps), len(one))
                self.assertTrue(is_shown_plainly(wish, kinds, found))
                self.gives(True, is_shown, wish=wish, value=found)
                self.assertIs(is_shown(wish, (text, tuple(laps))), True)
                self.assertIs(is_shown(wish, [text, laps]), False)

    def test_tuples_that_may_show_chains(self):
        random = Random(233)
        answers = []
        for wish in WISHES[::2]:
            kinds = plain_depth.ring_kinds(wish)
            begins = plain.texts(wish.letters, 2)
            turns = plain.texts(wish.letters, 3)
            for _ in range(30):
                value = (random.choice(begins), random.sample(turns, 1 + random.randrange(2)))
                expected = is_shown_plainly(wish, kinds, value)
                answers.append(expected)
                self.assertIs(is_shown(wish, value), expected)
            for is_good in (True, False):
                if chain(wish, is_good):
                    text, laps = shown(wish, chain(wish, is_good))
                    for value in [(text, laps[::-1]), (text, laps[1:]), (text + laps[0], laps), (text, laps + laps),
                                  (text, [lap * 2 for lap in laps]), (text + wish.letters[0], laps),
                                  (text, [lap[:-1] for lap in laps]), (text, laps + [""])]:
                        expected = is_shown_plainly(wish, kinds, value)
                        answers.append(expected)
                        self.assertIs(is_shown(wish, value), expected)
        self.assertGreater(answers.count(True), 500)
        self.assertGreater(answers.count(False), 500)

    def test_is_shown_for_any_value(self):
        kinds = plain_depth.ring_kinds(BOTH)
        others = [("", ["a", "ba"]), ("", ("a", "ba")), ["", ["a", "ba"]], ("", ["ba"]), ("", ["b"]),
                  ("b", ["b", "ab"]),
                  ("", []), ("", ()), ("", ["a", ""]), ("", [""]), ("", "a"), ("", "ba"), ("", {"a": 1}), ("c", ["a"]),
                  ("", ["a", "ca"]), ("A", ["a"]), (None, ["a"]), (0, ["a"]), ("", [None]), ("", [["a"]]),
                  ("", ["a", "ba"], []), ("", ["a", "ba"], None), (("", ["a", "ba"]),), ("", [b"a"]), (b"", ["a"]),
                  ("", [plain.Hostile()]), (plain.Hostile(), ["a"]), ("", plain.Hostile()), ("", plain.Broken()),
                  (plain.Broken(), ["a"]), ("", [plain.Broken()]), ("", ["a", "aa"]), ("", ["ba", "a"]),
                  ("\n", ["a"]), ("", ["a\n"]), ("", [(0,), (0, 1)]), "ab", {"": ["a"]}]
        for value in plain.odd_values() + others:
            self.gives(is_shown_plainly(BOTH, kinds, value), is_shown, wish=BOTH, value=value)
        self.assertIs(is_shown(BOTH, ("", ("a", "ba"))), True)
        self.assertIs(is_shown(BOTH, ("", [])), False)

    def test_values_that_are_no_chains(self):
        wrong = [[(0,), (1,)], [(0, 1), (0,)], [(0,), (0, 1), (0, 1)], [[0], [0, 1]], [(False,), (0, 1)], [(2,)], BOTH,
                 [(0,), (0, True)], [(0,), (1, 0)], ((1,), (0,)), [(0,), None], {(0,): 1}, [plain.Broken()], "a"]
        for value in plain.odd_values() + wrong:
            if not is_chain_plainly(plain_depth.ring_kinds(BOTH), value):
                self.fails_named(InvalidChain, {"value": value}, shown, wish=BOTH, chain=value)
        wish = Wish(Machine("ab", [[1, 0], [1, 1]]), [[1]])
        for value in [[(0,), (1,)], [(0, 1)], [(0,), (0, 1)]]:
            self.fails_named(InvalidChain, {"value": value}, shown, wish=wish, chain=value)
        self.assertEqual(shown(wish, [(1,)])[0], "a")


class UnchangedTest(Case):

    def test_lists_changed_behind(self):
        found = chain(BOTH, False)
        given = list(found)
        told = shown(BOTH, given)
        kept = (told[0], list(told[1]))
        given.clear()
        told[1].clear()
        self.assertEqual(len(chain(BOTH, False)), 2)
        found.append((7,))
        self.assertEqual(len(chain(BOTH, False)), 2)
        self.assertEqual(shown(BOTH, chain(BOTH, False)), kept)

    def test_calls_change_nothing(self):
        wishes = WISHES[::12] + [Wish(rounds()[4], [[0, 1, 2, 3, 4, 5], [0]])]
        ahead = repr(wishes)
        asked = [depth, least_ranks, is_again, is_at_last, is_weak, lambda wish: chain(wish, True),
                 lambda wish: chain(wish, False), lambda wish: shown(wish, chain(wish, True) or chain(wish, False))]
        first = [[ask(wish) for ask in asked] for wish in wishes]
        second = [[ask(wish) for ask in asked[::-1]][::-1] for wish in wishes[::-1]][::-1]
        self.assertEqual(first, second)
        given = [(0, 1), (0,)]
        self.assertRaises(InvalidChain, shown, BOTH, given)
        self.assertEqual(given, [(0, 1), (0,)])
        self.assertEqual(repr(wishes), ahead)
