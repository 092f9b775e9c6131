"""The lines of the document's examples, and those of README.md, as they stand there."""

import doctest
import pathlib
import unittest

README = pathlib.Path(__file__).resolve().parent.parent / "README.md"

DOCUMENT = """
>>> from ringdepth.machines import Machine, paired
>>> from ringdepth.words import Word
>>> word = Word("ab", "bab")
>>> [word, word[4], word.first(5), word.behind(2), "a" + word, word.again(), word.common(Word.of("ab"))]
[Word('', 'abb'), 'b', 'abbab', Word('', 'bab'), Word('a', 'abb'), 'ab', 2]
>>> last = Machine("ab", [[0, 1], [0, 1]])
>>> [last.walk("abb"), last.met(word), last.met(Word("ab", "a")), last.first_text(1), last.at(1)]
[[0, 0, 1, 1], (0, 1), (0,), 'b', Machine('ab', [[1, 0], [1, 0]])]
>>> paired(last, Machine("ab", [[1, 0], [0, 1]]))
(Machine('ab', [[1, 2], [0, 3], [1, 2], [0, 3]]), [(0, 0), (0, 1), (1, 0), (1, 1)])

>>> from ringdepth.rings import inner_parts, is_lap, joined_ring, leads, parts, passed, rings, word_of
>>> [rings(last), parts(last), joined_ring(last, (0,), (0, 1)), joined_ring(last, (0,), (1,))]
[[(0,), (0, 1), (1,)], [(0, 1)], (0, 1), None]
>>> once = Machine("ab", [[1, 0], [1, 1]])
>>> [parts(once), inner_parts(last, [1]), leads(once, (0,), (1,)), leads(once, (1,), (0,)), passed(Machine("ab", [[1, 1], [1, 1]]))]
[[(0,), (1,)], [(1,)], True, False, [0]]
>>> [is_lap(last, (0, 1), 0, "ba"), is_lap(last, (0, 1), 0, "a"), last.met(word_of(last, (1,)))]
[True, False, (1,)]

>>> from ringdepth.same import beyond, classes, is_same, joint
>>> from ringdepth.wishes import Wish
>>> both = Wish(last, [[1, 0], []])
>>> [both, both(Word("", "ab")), both(Word("ab", "b")), both[(0,)], (~both).good()]
[Wish(Machine('ab', [[0, 1], [0, 1]]), [(0, 1)]), True, False, False, [(0,), (1,)]]
>>> infinite = Wish(last, [[0], [0, 1]])
>>> [both.is_within(infinite), beyond(both, infinite), infinite.is_within(both), joint(both, infinite), classes(infinite)]
[True, None, False, [((0,), (0,)), ((0, 1), (0, 1)), ((1,), (1,))], [[0, 1]]]
>>> [infinite - both, both.at(1), is_same(both.at(1), both)]
[Wish(Machine('ab', [[0, 1], [0, 1]]), [(0,)]), Wish(Machine('ab', [[1, 0], [1, 0]]), [(0, 1)]), True]

>>> from ringdepth.chains import chain, depth, is_chain, is_shown, is_weak, least_ranks
>>> from ringdepth.nests import nest, ways, wish_of_nest
>>> seen = Wish(once, [[1]])
>>> [depth(both), depth(infinite), depth(Wish(last, [[0], [1]])), depth(seen), least_ranks(both), least_ranks(seen), is_weak(seen)]
[(1, 2), (1, 2), (2, 1), (1, 1), 2, 2, True]
>>> [len(chain(both, False)), is_chain(both, [(0,), (0, 1)]), is_shown(both, ("", ["a", "ba"])), nest(both), ways(both, 0)]
[2, True, True, {(0,): [], (0, 1): [(0,), (1,)], (1,): []}, [[(0, 1), (0,)]]]
>>> wish_of_nest(last, {(0, 1): False}, {(0, 1): [(1,)], (1,): []})
Wish(Machine('ab', [[0, 1], [0, 1]]), [(1,)])

>>> from ringdepth.judging import differs, is_ranked_of, own_ranks, ranked_of, spoilers
>>> from ringdepth.ranked import Ranked, own_depth
>>> ranked = Ranked(last, [[1, 2], [2, 1]])
>>> [is_ranked_of(both, ranked), ranked(Word("", "ab")), ranked.used(), own_depth(ranked), differs(infinite, ranked) is None]
[True, True, [1, 2], (1, 2), False]
>>> mixed = Wish(Machine("abc", [[0, 1, 2], [0, 1, 2], [0, 1, 2]]), [[0, 1], [0, 2]])
>>> [own_ranks(mixed), spoilers(mixed), depth(mixed), len(ranked_of(mixed).used())]
[None, ((0, 1), (0, 2)), (2, 3), 3]

>>> from ringdepth.guards import guard, hope, is_guard, is_hope, is_lively, settles_at
>>> from ringdepth.settled import first_settling, how_many_open, open_for_ever, settled, watcher
>>> [settled(seen, "b"), settled(seen, "ba"), first_settling(seen, True), first_settling(seen, False), how_many_open(seen, 3)]
['open', 'yes', 'a', None, 1]
>>> [open_for_ever(both), watcher(both), is_hope(seen), is_guard(seen), is_lively(seen), settles_at(seen, Word("bb", "a"))]
[[0, 1], (Machine('ab', [[0, 0]]), ['open']), True, False, True, 3]
>>> [guard(seen), hope(both)]
[Wish(Machine('ab', [[1, 0], [1, 1]]), [(0,), (1,)]), Wish(Machine('ab', [[0, 1], [0, 1]]), [])]

>>> from ringdepth.plans import fits_plan, wish_of
>>> from ringdepth.weak import is_least, least, passes, row
>>> wide = wish_of("ab", ("and", ("again", "a"), ("again", "b")))
>>> [wide, is_same(wide, both), wish_of("ab", ("once", "a")) == seen, fits_plan("ab", ("at last", "b"), Word("a", "b"))]
[Wish(Machine('ab', [[1, 2], [1, 2], [1, 2]]), [(1, 2)]), True, True, True]
>>> [passes(seen), row(seen, False), least(seen) == seen, is_least(wish_of("ab", ("or", ("once", "a"), ("once", "a"))))]
[(1, 2), [(0,), (1,)], True, True]

>>> from ringdepth.edits import joined, split
>>> from ringdepth.mended import bars, how_many_turned, is_mended
>>> from ringdepth.silent import is_silent, left_out
>>> [is_silent(seen, "b"), is_silent(seen, "a"), left_out(Word("ab", "abb"), "a")]
[True, False, Word('', 'b')]
>>> [how_many_turned(both, "again"), how_many_turned(both, "at last"), how_many_turned(both, "weak"), is_mended(both, "at last", [(0, 1)])]
[0, 1, 1, True]
>>> [joined(wide, 0, 1) == both, split(seen, 1, [(0, "a")])]
[True, Wish(Machine('ab', [[2, 0], [1, 1], [1, 1]]), [(1,)])]

>>> from ringdepth.claims import is_paper, is_true, paper_of
>>> from ringdepth.desk import Desk, tried
>>> from ringdepth.texts import read_wish, text_of
>>> [text_of(both), read_wish(text_of(both)) == both, text_of(ranked)]
['letters ab\\nfrom 0 to 0 1\\nfrom 1 to 0 1\\ngood 0 1\\n', True, 'ranked ab\\nfrom 0 to 0 1 1 2\\nfrom 1 to 0 2 1 1\\n']
>>> [is_true(("chain", both, False, 2)), paper_of(("own", both)) is None, is_paper(("no chain", both, True, 2), ranked), is_true(("loud", seen, "b"))]
[True, False, True, False]
>>> desk = Desk(both)
>>> [desk.do("depth"), desk.do_all("set bad 0 1", "depth"), desk.do("granted - ba"), tried(desk, lambda held: held.do("undo")), len(desk)]
['1 2', ['done', '0 1'], 'no', 'done', 1]
>>> [desk.undo(), desk.wish == both, desk.do("kind 0 1"), (0,) in desk, desk.do("settled -")]
[None, True, 'good', False, 'open']
"""


def failures(text, name):
    """How many lines of a text of examples fail, and how many there are."""
    test = doctest.DocTestParser().get_doctest(text, {}, name, name, 0)
    done = doctest.DocTestRunner(verbose=False).run(test)
    return done.failed, done.attempted


class ExamplesTest(unittest.TestCase):

    def test_document(self):
        self.assertEqual(failures(DOCUMENT, "document"), (0, 55))

    def test_readme(self):
        # A fence would be read as a line of the result above it.
        text = README.read_text(encoding="ascii").replace("```", "")
        failed, attempted = failures(text, "README.md")
        self.assertEqual(failed, 0)
        self.assertGreaterEqual(attempted, 3)


if __name__ == "__main__":
    unittest.main()
