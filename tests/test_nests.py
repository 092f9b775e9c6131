"""Nests, ways down and wishes told by them, against going node by node and trying all wishes."""

from random import Random

from ringdepth.errors import InvalidKinds, InvalidNest, InvalidPlace, TooMany
from ringdepth.machines import Machine
from ringdepth.nests import how_many_ways, kinds, nest, ways, wish_of_nest
from ringdepth.wishes import Wish
from tests import plain, plain_depth
from tests.cases import LAST, TWO_TRIPLES, Case, drawn_wishes, rounds, small_rows

BOTH = Wish(LAST, [[0, 1]])
WISHES = drawn_wishes(307, 40)


def circle(places):
    """A machine of one circle."""
    return Machine("a", [[(place + 1) % places] for place in range(places)])


def shuffled(random, told):
    """A dict with the same keys in another sequence."""
    keys = random.sample(list(told), len(told))
    return {key: told[key] for key in keys}


class NestTest(Case):

    def test_nest_node_by_node(self):
        for wish in WISHES:
            expected = plain_depth.nest(plain_depth.ring_kinds(wish))
            # The keys are sorted, too.
            self.gives({node: expected[node] for node in sorted(expected)}, nest, wish=wish)

    def test_rings_have_the_kind_of_their_node(self):
        for wish in WISHES:
            tree = nest(wish)
            for node, children in tree.items():
                for ring in plain.rings(wish.machine.rows()):
                    if set(ring) <= set(node) and not any(set(ring) <= set(child) for child in children):
                        self.assertIs(wish[ring], wish[node])

    def test_not_has_the_same_nest_and_the_other_kinds(self):
        for wish in WISHES:
            self.assertEqual(nest(~wish), nest(wish))
            self.assertEqual(kinds(~wish), {part: not is_good for part, is_good in kinds(wish).items()})

    def test_kinds(self):
        for wish in WISHES:
            expected = {part: part in wish.good() for part in plain_depth.parts(wish.machine.rows())}
            self.gives(expected, kinds, wish=wish)

    def test_a_node_of_two_nodes(self):
        machine = Machine("abc", [[0, 1, 2], [0, 1, 1], [0, 2, 2]])
        wish = Wish(machine, [[0, 1, 2], [0]])
        self.assertEqual(nest(wish), {(0, 1, 2): [(0, 1), (0, 2)], (0, 1): [(0,)], (0, 2): [(0,)], (0,): []})
        self.assertEqual(list(nest(wish)), [(0,), (0, 1), (0, 1, 2), (0, 2)])
        self.assertEqual(ways(wish, 0), [[(0, 1, 2), (0, 1), (0,)], [(0, 1, 2), (0, 2), (0,)]])
        self.assertEqual((ways(wish, 1), how_many_ways(wish)), ([[(0, 1, 2), (0, 1)]], 4))


class WaysTest(Case):

    def test_ways_node_by_node(self):
        most = 0
        for wish in WISHES:
            told = plain_depth.ring_kinds(wish)
            many = 0
            for place in range(len(wish.machine)):
                found = ways(wish, place)
                self.gives(plain_depth.ways(told, place), ways, wish=wish, place=place)
                self.assertEqual(found, sorted(found))
                many += len(found)
                if not any(place in ring for ring in told):
                    self.assertEqual(found, [[]])
            self.gives(many, how_many_ways, wish=wish)
            most = max(most, many)
        self.assertGreater(most, 120)

    def test_places_that_are_none(self):
        for value in plain.odd_values() + [2, -2, (0,), [1]]:
            if not (type(value) is int and 0 <= value < 2):
                self.fails_named(InvalidPlace, {"value": value}, ways, wish=BOTH, place=value)
        self.fails_named(InvalidPlace, {"value": 6}, ways, wish=Wish(circle(6), []), place=6)


class WishOfNestTest(Case):

    def test_nests_tell_each_wish_back(self):
        random = Random(311)
        for wish in WISHES:
            machine = wish.machine
            given = (kinds(wish), nest(wish))
            self.gives(wish, wish_of_nest, machine=machine, kinds=given[0], nest=given[1])
            tuples = {node: tuple(children) for node, children in given[1].items()}
            for _ in range(2):
                self.assertEqual(wish_of_nest(machine, shuffled(random, given[0]), shuffled(random, given[1])), wish)
                self.assertEqual(wish_of_nest(machine, given[0], shuffled(random, tuples)), wish)
            turned = {part: not is_good for part, is_good in given[0].items()}
            self.assertEqual(wish_of_nest(machine, turned, given[1]), ~wish)

    def all_told(self, machine):
        """The list of all wishes of a machine, each with the kinds of its parts and its nest."""
        wishes = [Wish(machine, [])]
        for ring in plain.rings(machine.rows()):
            wishes += [wish.turned([ring]) for wish in wishes]
        found = []
        for wish in wishes:
            told = plain_depth.ring_kinds(wish)
            found.append((wish, {part: told[part] for part in plain.greatest(list(told))}, plain_depth.nest(told)))
        return found

    def check_given(self, known, machine, given_kinds, given_nest):
        """A nest is taken just if it is that of one of all wishes."""
        right = [wish for wish, told, tree in known if told == given_kinds and tree == given_nest]
        if right:
            self.assertEqual(wish_of_nest(machine, given_kinds, given_nest), right[0])
        else:
            self.fails_named(InvalidNest, {"value": given_nest}, wish_of_nest, machine=machine, kinds=given_kinds,
                             nest=given_nest)
        return bool(right)

    def test_all_small_nests(self):
        random = Random(313)
        answers = []
        machines = [Machine("ab", rows) for rows in small_rows(2, "ab")[::3]] + [
            Machine("abc", [[0, 1, 2], [0, 1, 1], [0, 2, 2]]), Machine("ab", [[1, 2], [1, 0], [0, 2]]),
            Machine("ab", [[1, 1], [2, 1], [2, 3], [3, 2]]),
            Machine("abc", [[0, 1, 3], [0, 1, 2], [1, 2, 2], [3, 3, 3]])]
        for machine in machines:
            known = self.all_told(machine)
            found = plain.rings(machine.rows())
            for _ in range(120):
                _, given_kinds, tree = random.choice(known)
                changed = {node: list(children) for node, children in tree.items()}
                for _ in range(1 + random.randrange(2)):
                    node = random.choice(found)
                    children = changed.setdefault(node, [])
                    act = random.randrange(6)
                    if act == 0:
                        del changed[node]
                    elif act == 1:
                        children.append(random.choice(found))
                    elif act == 2 and children:
                        children.remove(random.choice(children))
                    elif act == 3:
                        children.reverse()
                    elif act == 4:
                        changed[node] = sorted(random.sample(found, random.randrange(min(3, len(found)))))
                answers.append(self.check_given(known, machine, given_kinds, changed))
                answers.append(self.check_given(known, machine, random.choice(known)[1], random.choice(known)[2]))
        self.assertGreater(answers.count(True), 150)
        self.assertGreater(answers.count(False), 300)

    def test_kinds_that_are_none(self):
        tree = nest(BOTH)
        wrong = [{(0, 1): 1}, {(0, 1): 0}, {(0, 1): None}, {(0, 1): "good"}, {(False, 1): True}, {(0, True): True},
                 {(0, 1): True, (0,): False}, {(0,): True}, {(0,): True, (1,): True}, {(1, 0): True}, {},
                 {0: True, 1: True},
                 [((0, 1), True)], [(0, 1)], {(0, 1)}, {"(0, 1)": True}, {None: True, (0, 1): True}, {(0, 1, 2): True},
                 {(0, 1): [True]}, {(0, 1): True, (7,): True}, {(0, 1): plain.Broken()}, {(0, 1): plain.Hostile()}]
        for value in plain.odd_values() + wrong:
            for given in [tree, None, {}]:
                self.fails_named(InvalidKinds, {"value": value}, wish_of_nest, machine=LAST, kinds=value, nest=given)
        for value in [{(0, 1, 2): True}, {(3, 4, 5): True}, {(0, 1, 2): True, (3, 4, 5): 0},
                      {(0, 1): True, (3, 4, 5): True}]:
            self.fails_named(InvalidKinds, {"value": value}, wish_of_nest, machine=TWO_TRIPLES, kinds=value, nest={})

    def test_nests_that_are_none(self):
        given = {(0, 1): True}
        wrong = [{}, {(0, 1): [(0,), (1,)]}, {(0, 1): [(0,)]}, {(0, 1): [(0,)], (0,): [], (1,): []},
                 {(0, 1): [(1,), (0,)], (0,): [], (1,): []}, {(0, 1): [(0,), (0,)], (0,): []},
                 {(0, 1): [(0, 1)]}, {(0, 1): [(0,)], (0,): [(0,)]}, {(0, 1): [(0,)], (0,): [(0, 1)]},
                 {(0, 1): [[0]], (0,): []}, {(0, 1): [(False,)], (0,): []}, {(0, 1): [(0,)], (False,): []},
                 {(0, True): []}, {(False, 1): [(0,)], (0,): []}, {(1, 0): []}, {(0, 1): None}, {(0, 1): {(0,): True}},
                 {(0, 1): "01"}, {(0, 1): [0]}, {(0, 1): [None]}, {(0, 1): [(2,)], (2,): []}, {(0, 1): [()], (): []},
                 {(0, 1): [], (2,): []}, {(0, 1): [], "a": []}, {(0, 1): [], None: []}, {(0, 1): [(0,)], (0,): None},
                 [((0, 1), [])], [(0, 1)], {(0,): [], (1,): []}, {(0, 1): [plain.Hostile()], (0,): []},
                 {(0, 1): plain.Hostile()}, {(0, 1): plain.Broken()}, {(0, 1): [plain.Broken()]}, BOTH, LAST]
        for value in plain.odd_values() + wrong:
            self.fails_named(InvalidNest, {"value": value}, wish_of_nest, machine=LAST, kinds=given, nest=value)
        self.assertEqual(wish_of_nest(LAST, given, {(0, 1): ()}), Wish(LAST, [[0], [1], [0, 1]]))
        self.assertEqual(wish_of_nest(LAST, given, {(1,): (), (0, 1): ((0,), (1,)), (0,): []}), BOTH)
        self.assertEqual(wish_of_nest(LAST, given, {(1,): [], (0, 1): [(1,)]}), Wish(LAST, [[0], [0, 1]]))

    def test_a_part_without_a_node(self):
        given = {(0, 1, 2): True, (3, 4, 5): False}
        self.fails_named(InvalidNest, {"value": {(0, 1, 2): []}}, wish_of_nest, machine=TWO_TRIPLES, kinds=given,
                         nest={(0, 1, 2): []})
        wish = wish_of_nest(TWO_TRIPLES, given, {(3, 4, 5): [], (0, 1, 2): []})
        self.assertEqual(wish.good(), [ring for ring in plain.rings(TWO_TRIPLES.rows()) if ring[0] < 3])

    def test_seven_places(self):
        seven = (0, 1, 2, 3, 4, 5, 6)
        kept = {"what": "places", "limit": 6}
        for tree in [{seven: []}, {}, None, {seven: [seven]}]:
            self.fails_named(TooMany, kept, wish_of_nest, machine=circle(7), kinds={seven: True}, nest=tree)
        for value in [{seven: 1}, {}, None, {seven[:6]: True}]:
            self.fails_named(InvalidKinds, {"value": value}, wish_of_nest, machine=circle(7), kinds=value,
                             nest={seven: []})
        whole = tuple(range(120))
        self.fails_named(TooMany, kept, wish_of_nest, machine=circle(120), kinds={whole: False}, nest={whole: []})
        six = seven[:6]
        self.assertEqual(wish_of_nest(circle(6), {six: True}, {six: []}), Wish(circle(6), [six]))


class UnchangedTest(Case):

    def test_dicts_changed_behind(self):
        wish = Wish(rounds()[0], [[0, 1, 2, 3, 4], [0, 1]])
        ahead = repr((nest(wish), kinds(wish), ways(wish, 1), how_many_ways(wish)))
        tree, told, down = nest(wish), kinds(wish), ways(wish, 1)
        for children in tree.values():
            children.append(None)
        tree.clear()
        told.clear()
        down[0].clear()
        down.clear()
        self.assertEqual(repr((nest(wish), kinds(wish), ways(wish, 1), how_many_ways(wish))), ahead)

    def test_given_dicts(self):
        told, tree = {(0, 1): True}, {(1,): [], (0, 1): [(0,), (1,)], (0,): []}
        wish = wish_of_nest(LAST, told, tree)
        self.assertEqual((told, list(tree.items())), ({(0, 1): True}, [((1,), []), ((0, 1), [(0,), (1,)]), ((0,), [])]))
        tree[(0, 1)].clear()
        tree.clear()
        told[(0, 1)] = False
        self.assertEqual(wish, BOTH)
        self.assertEqual(nest(wish), {(0,): [], (0, 1): [(0,), (1,)], (1,): []})
        bad = {(0, 1): [(1,), (0,)], (0,): [], (1,): []}
        self.assertRaises(InvalidNest, wish_of_nest, LAST, {(0, 1): True}, bad)
        self.assertEqual(bad, {(0, 1): [(1,), (0,)], (0,): [], (1,): []})

    def test_calls_change_nothing(self):
        wishes = WISHES[::12]
        ahead = repr(wishes)
        asked = [nest, kinds, how_many_ways, lambda wish: ways(wish, 0),
                 lambda wish: wish_of_nest(wish.machine, kinds(wish), nest(wish))]
        first = [[ask(wish) for ask in asked] for wish in wishes]
        second = [[ask(wish) for ask in asked[::-1]][::-1] for wish in wishes[::-1]][::-1]
        self.assertEqual(first, second)
        self.assertEqual(repr(wishes), ahead)
