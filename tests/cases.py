"""What the tests of several files share: how errors are asked for, and machines to try."""

import unittest
from itertools import product
from random import Random

from ringdepth.machines import Machine
from ringdepth.wishes import Wish
from tests import plain

# It remembers the last letter.
LAST = Machine("ab", [[0, 1], [0, 1]])

# Two parts of three places; in each of them rings of one, two and three places lie within one another.
TWO_TRIPLES = Machine("abc", [[0, 1, 3], [0, 2, 1], [1, 1, 2], [3, 4, 3], [3, 5, 4], [4, 4, 5]])


class Case(unittest.TestCase):
    """A test case that asks for an error together with all that it keeps."""

    def fails(self, error, kept, call):
        """The call raises just this error, and it keeps just these values, of just these kinds."""
        with self.assertRaises(error) as caught:
            call()
        self.assertIs(type(caught.exception), error)
        self.assertEqual(sorted(vars(caught.exception)), sorted(kept))
        for name, value in kept.items():
            found = getattr(caught.exception, name)
            if found is not value:
                self.assertIs(type(found), type(value), name)
                self.assertEqual(found, value, name)

    def fails_named(self, error, kept, function, **arguments):
        """The function fails so by position, and by name in any sequence."""
        self.fails(error, kept, lambda: function(*arguments.values()))
        self.fails(error, kept, lambda: function(**arguments))
        self.fails(error, kept, lambda: function(**dict(reversed(list(arguments.items())))))

    def gives(self, expected, function, **arguments):
        """The function returns this by position, by name, and once again; kinds count, too."""
        for found in (function(*arguments.values()), function(**arguments), function(*arguments.values())):
            self.assertEqual(found, expected)
            self.assertEqual(shape(found), shape(expected))


def shape(value):
    """The kinds of a value and of all values in it."""
    if isinstance(value, (list, tuple)):
        return type(value), [shape(inner) for inner in value]
    if isinstance(value, dict):
        return type(value), [(key, shape(key), shape(inner)) for key, inner in value.items()]
    return type(value)


def small_rows(places, letters):
    """All rows of so many places, each of which is come to."""
    found = []
    for flat in product(range(places), repeat=places * len(letters)):
        rows = [list(flat[at:at + len(letters)]) for at in range(0, len(flat), len(letters))]
        if len(plain.come_to(rows)) == places:
            found.append(rows)
    return found


def random_rows(random, places, letters):
    """Rows of at most so many places, all of which are come to, in a random sequence behind place 0."""
    rows = [[random.randrange(places) for _ in letters] for _ in range(places)]
    kept = sorted(plain.come_to(rows) - {0})
    random.shuffle(kept)
    kept = [0] + kept
    return [[kept.index(goal) for goal in rows[place]] for place in kept]


def wide_rows(random, places, letters):
    """Rows of just so many places, all of which are come to: a random tree, and random steps beside it."""
    order = list(range(1, places))
    random.shuffle(order)
    rows = [[None for _ in letters] for _ in range(places)]
    tree = [0]
    for place in order:
        free = [(near, at) for near in tree for at in range(len(letters)) if rows[near][at] is None]
        near, at = random.choice(free)
        rows[near][at] = place
        tree.append(place)
    return [[random.randrange(places) if goal is None else goal for goal in row] for row in rows]


def some_machines(random, many, places):
    """So many machines of one place up to so many places, of one to three letters."""
    found = []
    for number in range(many):
        letters = ["a", "ab", "abc", "bx", "xyz"][number % 5]
        found.append(Machine(letters, random_rows(random, 1 + random.randrange(places), letters)))
    return found


def some_wishes(seed, many, places):
    """So many wishes of one place up to so many places, of one to three letters."""
    random = Random(seed)
    found = []
    for machine in some_machines(random, many, places):
        good = [ring for ring in plain.rings(machine.rows()) if random.randrange(2)]
        found.append(Wish(machine, good))
    return found


def some_pairs(seed, many, places):
    """So many pairs of wishes with the same letters, and the words to try on each."""
    random = Random(seed)
    found = []
    for number in range(many):
        letters = ["a", "ab", "abc", "xy"][number % 4]
        both = []
        for _ in range(2):
            rows = random_rows(random, 1 + random.randrange(places), letters)
            both.append(Wish(Machine(letters, rows), [ring for ring in plain.rings(rows) if random.randrange(2)]))
        found.append((both[0], both[1], plain.words(letters, 2, 4 if len(letters) < 3 else 3)))
    return found


def granted(wish, begin, lap, start=0):
    """Whether a word is granted the wish, by walking from a place."""
    machine = wish.machine
    return plain.met(machine.rows(), machine.letters, begin, lap, start) in wish.good()


def spread(wish, random):
    """The same wish, told with a machine in which some places stand twice."""
    rows = wish.machine.rows()
    many = len(rows)
    twin = random.randrange(many)
    rows = [[many if goal == twin and random.randrange(2) else goal for goal in row] for row in rows + [rows[twin]]]
    machine = Machine.come_to(wish.letters, rows)
    order, _ = plain.numbered(rows, wish.letters)
    old = [twin if place == many else place for place in order]
    return Wish(machine, [ring for ring in plain.rings(machine.rows())
                          if tuple(sorted({old[place] for place in ring})) in wish.good()])


def turned_about(wish, random):
    """The same wish, told with a machine whose places behind place 0 have other numbers."""
    rows = wish.machine.rows()
    order = [0] + random.sample(range(1, len(rows)), len(rows) - 1)
    machine = Machine(wish.letters, [[order.index(goal) for goal in rows[place]] for place in order])
    return Wish(machine, [[order.index(place) for place in ring] for ring in wish.good()])


def round_rows(places, leaps):
    """The rows of a round: by the letters one goes on by so many places."""
    return [[(place + leap) % places for leap in leaps] for place in range(places)]


def rounds():
    """Machines of five and six places in a round, each leading to several next ones, with many rings in one another."""
    return [Machine("abc", round_rows(places, leaps)) for places, leaps in [
        (5, (0, 1, 2)), (5, (1, 2, 3)), (5, (1, 3, 4)), (5, (2, 3, 4)), (6, (0, 1, 2)), (6, (1, 2, 3)), (6, (0, 1, 3)),
        (6, (1, 2, 5)), (6, (1, 3, 5)), (6, (2, 3, 4)), (6, (5, 0, 1))]] + [
        Machine("ab", round_rows(places, leaps)) for places, leaps in [
            (5, (1, 2)), (6, (1, 2)), (6, (1, 3)), (6, (5, 1))]]


def parted_machines(random, many):
    """So many machines of several parts: steps lead to places of one's own group or of later ones."""
    found = []
    while len(found) < many:
        letters = ["ab", "abc", "ax", "abc"][len(found) % 4]
        groups = sorted(random.randrange(4) for _ in range(random.choice([4, 5, 6, 6, 6])))
        rows = [[random.choice([near for near, group in enumerate(groups)
                                if group == mine or (group > mine and random.randrange(2))]) for _ in letters]
                for mine in groups]
        if len(plain.come_to(rows)) > 3:
            found.append(Machine.come_to(letters, rows))
    return found


def draws(random, found):
    """Lists of good rings out of those found, drawn in several ways."""
    place = random.randrange(6)
    good_parts = [part for part in plain.greatest(found) if random.randrange(2)]
    return [
        [ring for ring in found if any(set(ring) <= set(part) for part in good_parts)],
        [ring for ring in found if (len(ring) % 2 == 0) == any(set(ring) <= set(part) for part in good_parts)],
        [ring for ring in found if len(ring) % 3 == 1],
        [ring for ring in found if place in ring],
        [ring for ring in found if ring[-1] % 2],
        [ring for ring in found if random.randrange(2)],
        [ring for ring in found if random.randrange(5)],
        list(found),
        [],
    ]


def drawn_wishes(seed, many, step=1):
    """Wishes of one to six places and one to three letters, on so many machines, on half as many of several parts,
    on rounds, and on some with places in no ring; every step-th machine of them."""
    random = Random(seed)
    found = []
    machines = some_machines(random, many, 6) + rounds() + parted_machines(random, many // 2)
    # A way through places in no ring, ahead of parts and between them.
    machines += [Machine("ab", [[1, 2], [3, 3], [2, 4], [3, 3], [5, 5], [5, 4]]), Machine("a", [[1], [2], [2]]),
                 Machine("abc", [[1, 1, 2], [1, 3, 3], [2, 2, 3], [4, 4, 4], [5, 5, 4], [5, 4, 4]]), TWO_TRIPLES]
    for machine in machines[::step]:
        for good in draws(random, plain.rings(machine.rows())):
            wish = Wish(machine, good)
            if wish not in found[-9:]:
                found.append(wish)
    return found


def ranked_rows(random, rows, most):
    """A random rank from 0 to most for each step."""
    return [[random.randrange(most + 1) for _ in row] for row in rows]
