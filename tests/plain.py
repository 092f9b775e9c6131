"""Second reckonings for the tests: slow, plain, and made without the package's own ways.

Words are walked letter by letter, rings are found by trying all sets of places, pairs by trying all pairs.
"""

from functools import lru_cache
from itertools import product


class Hostile:
    """A value that claims to be equal to everything, and cannot be hashed."""

    __hash__ = None

    def __eq__(self, other):
        return True

    def __len__(self):
        return 1


class Broken:
    """A value that cannot be compared, measured or shown."""

    def __eq__(self, other):
        raise AssertionError("compared")

    def __hash__(self):
        raise AssertionError("hashed")

    def __len__(self):
        raise AssertionError("measured")

    def __bool__(self):
        raise AssertionError("tested")

    def __repr__(self):
        raise AssertionError("shown")


def odd_values():
    """Values of many kinds, new at each call; which of them are right depends on what is asked for."""
    return [
        None, True, False, -1, 0, 1, 2, 7, 10 ** 29, -(10 ** 29), "", " ", "a", "b", "A", "Z", "ab", "ba", "aa",
        "abc", "abcd", "a b", "a\n", "\n", "a-", "1", "0", "`", "{", "aB", b"", b"a", [], [0], [True], [[0]],
        [[0], [0]], ["a"], (), (0,), (1,), (0, 1), (True,), (False,), ((0,),), ("a",), (0, 0), (1, 0), {}, {0: 0},
        {"a": 1}, set(), {0}, frozenset(), frozenset([0]), range(1), object(), int, str, len, ValueError(),
        Ellipsis, NotImplemented, iter([0]), (number for number in [0]), Hostile(), Broken(),
    ]


def texts(letters, longest):
    """All texts over the letters of at most so many letters, the least first."""
    return ["".join(row) for many in range(longest + 1) for row in product(letters, repeat=many)]


def told(begin, lap, number):
    """So many first letters of a word, walked one by one."""
    out = []
    at = 0
    while len(out) < number:
        out.append(begin[at] if at < len(begin) else lap[(at - len(begin)) % len(lap)])
        at += 1
    return "".join(out)


def plain_telling(begin, lap):
    """The begin and lap of the plain telling, by trying all shorter laps and begins."""
    shown = told(begin, lap, 3 * (len(begin) + len(lap)) + 3)
    for laps in range(1, len(lap) + 1):
        for begins in range(len(begin) + 1):
            if told(shown[:begins], shown[begins:begins + laps], len(shown)) == shown:
                return shown[:begins], shown[begins:begins + laps]
    raise AssertionError("no telling")


def goes(rows, letters, place, text):
    """Where a text leads, letter by letter."""
    for letter in text:
        place = rows[place][letters.index(letter)]
    return place


def come_to(rows, start=0):
    """The set of the places that are come to from start, by adding goals until none is new."""
    met = {start}
    while True:
        more = met | {goal for place in met for goal in rows[place]}
        if more == met:
            return met
        met = more


def least_texts(rows, letters, start=0):
    """The dict from each place that is come to from start to the least text, by trying all texts in sequence."""
    many = len(come_to(rows, start))
    found = {}
    for text in texts(letters, len(rows) - 1):
        found.setdefault(goes(rows, letters, start, text), text)
        if len(found) == many:
            return found
    raise AssertionError("a place is lost")


def numbered(rows, letters, start=0):
    """The list of the places numbered as come to, and their rows: places by their least texts."""
    order = list(least_texts(rows, letters, start))
    return order, [[order.index(goal) for goal in rows[place]] for place in order]


def met(rows, letters, begin, lap, start=0):
    """The sorted tuple of the places that are met, by walking laps until the walk must be in its circle."""
    place = goes(rows, letters, start, begin + lap * len(rows))
    found = set()
    for letter in lap * len(rows):
        place = rows[place][letters.index(letter)]
        found.add(place)
    return tuple(sorted(found))


def within(rows, inside, start):
    """The set of the places to which one or more steps lead from start through places inside alone."""
    found = set()
    while True:
        more = {goal for place in found | {start} for goal in rows[place] if goal in inside}
        if more <= found:
            return found
        found = found | more


def is_ring(rows, places):
    """Whether a set of places is a ring: each of them leads to each of them within it."""
    return bool(places) and all(within(rows, set(places), place) == set(places) for place in places)


def rings(rows):
    """The sorted list of all rings, by trying all sets of places."""
    return list(_rings(tuple(tuple(row) for row in rows)))


@lru_cache(maxsize=None)
def _rings(rows):
    """The same list as a tuple, kept for the next time."""
    found = []
    for taken in product([False, True], repeat=len(rows)):
        places = tuple(place for place, is_in in enumerate(taken) if is_in)
        if is_ring(rows, places):
            found.append(places)
    return tuple(sorted(found))


def greatest(found):
    """The sorted list of the rings among some that lie in no greater one of them."""
    return sorted(ring for ring in found if not any(set(ring) < set(other) for other in found))


def pairs(one_rows, other_rows):
    """The rows of all pairs of places, each pair told by its place in the list of all pairs; and this list."""
    listed = [(one, other) for one in range(len(one_rows)) for other in range(len(other_rows))]
    rows = [[listed.index(goals) for goals in zip(one_rows[one], other_rows[other])] for one, other in listed]
    return rows, listed


def joint(one_rows, other_rows):
    """The sorted list of the joint rings, by trying all sets of those pairs that are come to."""
    rows, listed = pairs(one_rows, other_rows)
    kept = sorted(come_to(rows))
    found = set()
    for taken in product([False, True], repeat=len(kept)):
        places = [place for place, is_in in zip(kept, taken) if is_in]
        if is_ring(rows, places):
            found.add((tuple(sorted({listed[place][0] for place in places})),
                       tuple(sorted({listed[place][1] for place in places}))))
    return sorted(found)


def words(letters, begins, laps):
    """All begins and laps of at most so many letters."""
    return [(begin, lap) for begin in texts(letters, begins) for lap in texts(letters, laps) if lap]
