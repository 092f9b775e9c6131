"""Second reckonings for the tests: slow, plain, and made without the package's own ways.

Words are walked letter by letter, rings are found by trying all sets of places, pairs by trying all pairs.
"""

from itertools import product


class Hostile:
    """A value that claims to be equal to everything, and cannot be hashed."""

    __hash__ = None

    def __eq__(self, other):
        return True

    def __len__(self):
        return 1


class Broken:
    """A value that cannot be compared, measured or shown."""

    def __eq__(self, other):
        raise AssertionError("compared")

    def __hash__(self):
        raise AssertionError("hashed")

    def __len__(self):
        raise AssertionError("measured")

    def __bool__(self):
        raise AssertionError("tested")

    def __repr__(self):
        raise AssertionError("shown")


def odd_values():
    """Values of many kinds, new at each call; which of them are right depends on what is asked for."""
    return [
        None, True, False, -1, 0, 1, 2, 7, 10 ** 29, -(10 ** 29), "", " ", "a", "b", "A", "Z", "ab", "ba", "aa",
        "abc", "abcd", "a b", "a\n", "\n", "a-", "1", "0", "`", "{", "aB", b"", b"a", [], [0], [True], [[0]],
        [[0], [0]], ["a"], (), (0,), (1,), (0, 1), (True,), (False,), ((0,),), ("a",), (0, 0), (1, 0), {}, {0: 0},
        {"a": 1}, set(), {0}, frozenset(), frozenset([0]), range(1), object(), int, str, len, ValueError(),
        Ellipsis, NotImplemented, iter([0]), (number for number in [0]), Hostile(), Broken(),
    ]


def texts(letters, longest):
    """All texts over the letters of at most so many letters, the least first."""
    return ["".join(row) for many in range(longest + 1) for row in product(letters, repeat=many)]


def told(begin, lap, number):
    """So many first letters of a word, walked one by one."""
    out = []
    at = 0
    while len(out) < number:
        out.append(begin[at] if at < len(begin) else lap[(at - len(begin)) % len(lap)])
        at += 1
    return "".join(out)


def plain_telling(begin, lap):
    """The begin and lap of the plain telling, by trying all shorter laps and begins."""
    shown = told(begin, lap, 3 * (len(begin) + len(lap)) + 3)
    for laps in range(1, len(lap) + 1):
        for begins in range(len(begin) + 1):
            if told(shown[:begins], shown[begins:begins + laps], len(shown)) == shown:
                return shown[:begins], shown[begins:begins + laps]
    raise AssertionError("no telling")
