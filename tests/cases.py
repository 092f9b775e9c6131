"""What the tests of several files share: how errors are asked for, and machines to try."""

import unittest
from itertools import product
from random import Random

from ringdepth.machines import Machine
from ringdepth.wishes import Wish
from tests import plain

# It remembers the last letter.
LAST = Machine("ab", [[0, 1], [0, 1]])


class Case(unittest.TestCase):
    """A test case that asks for an error together with all that it keeps."""

    def fails(self, error, kept, call):
        """The call raises just this error, and it keeps just these values, of just these kinds."""
        with self.assertRaises(error) as caught:
            call()
        self.assertIs(type(caught.exception), error)
        self.assertEqual(sorted(vars(caught.exception)), sorted(kept))
        for name, value in kept.items():
            found = getattr(caught.exception, name)
            if found is not value:
                self.assertIs(type(found), type(value), name)
                self.assertEqual(found, value, name)

    def fails_named(self, error, kept, function, **arguments):
        """The function fails so by position, and by name in any sequence."""
        self.fails(error, kept, lambda: function(*arguments.values()))
        self.fails(error, kept, lambda: function(**arguments))
        self.fails(error, kept, lambda: function(**dict(reversed(list(arguments.items())))))

    def gives(self, expected, function, **arguments):
        """The function returns this by position, by name, and once again; kinds count, too."""
        for found in (function(*arguments.values()), function(**arguments), function(*arguments.values())):
            self.assertEqual(found, expected)
            self.assertEqual(shape(found), shape(expected))


def shape(value):
    """The kinds of a value and of all values in it."""
    if isinstance(value, (list, tuple)):
        return type(value), [shape(inner) for inner in value]
    return type(value)


def small_rows(places, letters):
    """All rows of so many places, each of which is come to."""
    found = []
    for flat in product(range(places), repeat=places * len(letters)):
        rows = [list(flat[at:at + len(letters)]) for at in range(0, len(flat), len(letters))]
        if len(plain.come_to(rows)) == places:
            found.append(rows)
    return found


def random_rows(random, places, letters):
    """Rows of at most so many places, all of which are come to, in a random sequence behind place 0."""
    rows = [[random.randrange(places) for _ in letters] for _ in range(places)]
    kept = sorted(plain.come_to(rows) - {0})
    random.shuffle(kept)
    kept = [0] + kept
    return [[kept.index(goal) for goal in rows[place]] for place in kept]


def wide_rows(random, places, letters):
    """Rows of just so many places, all of which are come to: a random tree, and random steps beside it."""
    order = list(range(1, places))
    random.shuffle(order)
    rows = [[None for _ in letters] for _ in range(places)]
    tree = [0]
    for place in order:
        free = [(near, at) for near in tree for at in range(len(letters)) if rows[near][at] is None]
        near, at = random.choice(free)
        rows[near][at] = place
        tree.append(place)
    return [[random.randrange(places) if goal is None else goal for goal in row] for row in rows]


def some_machines(random, many, places):
    """So many machines of one place up to so many places, of one to three letters."""
    found = []
    for number in range(many):
        letters = ["a", "ab", "abc", "bx", "xyz"][number % 5]
        found.append(Machine(letters, random_rows(random, 1 + random.randrange(places), letters)))
    return found


def some_wishes(seed, many, places):
    """So many wishes of one place up to so many places, of one to three letters."""
    random = Random(seed)
    found = []
    for machine in some_machines(random, many, places):
        good = [ring for ring in plain.rings(machine.rows()) if random.randrange(2)]
        found.append(Wish(machine, good))
    return found


def some_pairs(seed, many, places):
    """So many pairs of wishes with the same letters, and the words to try on each."""
    random = Random(seed)
    found = []
    for number in range(many):
        letters = ["a", "ab", "abc", "xy"][number % 4]
        both = []
        for _ in range(2):
            rows = random_rows(random, 1 + random.randrange(places), letters)
            both.append(Wish(Machine(letters, rows), [ring for ring in plain.rings(rows) if random.randrange(2)]))
        found.append((both[0], both[1], plain.words(letters, 2, 4 if len(letters) < 3 else 3)))
    return found


def granted(wish, begin, lap, start=0):
    """Whether a word is granted the wish, by walking from a place."""
    machine = wish.machine
    return plain.met(machine.rows(), machine.letters, begin, lap, start) in wish.good()
