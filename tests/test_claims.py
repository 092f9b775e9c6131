"""Claims and their papers, against the document's words."""

from random import Random

from ringdepth.claims import is_claim, is_paper, is_true, paper_of
from ringdepth.errors import InvalidClaim
from ringdepth.judging import own_ranks, ranked_of
from ringdepth.machines import Machine
from ringdepth.nests import how_many_ways
from ringdepth.ranked import Ranked
from ringdepth.wishes import Wish
from ringdepth.words import Word
from tests import plain, plain_depth
from tests.cases import LAST, Case, drawn_wishes, granted, rounds, some_pairs, spread
from tests.test_mended import fewest, is_bar, is_of_sort, turned
from tests.test_silent import are_loud_plainly, is_silent_plainly

BOTH = Wish(LAST, [[0, 1]])
SEEN = Wish(Machine("ab", [[1, 0], [1, 1]]), [[1]])
FREE = Machine("abc", [[0, 1, 2]] * 3)
MIXED = Wish(FREE, [[0, 1], [0, 2]])
# All three, or one alone, but not two: it needs three ranks, and has own ones only if no two spoil them.
ODD = Wish(FREE, [[0], [1], [2], [0, 1, 2]])
SORTS = ["again", "at last"]
CONTRARIES = {"chain": "no chain", "ranked": "not ranked", "own": "not own", "within": "not within", "mended": "not mended"}
WISHES = [wish for wish in drawn_wishes(1401, 40, 2) if how_many_ways(wish) <= 40]
SMALL = [wish for wish in WISHES if len(wish) <= 7]


def by_size(rows, sizes):
    """The wish of three letters whose good rings are those of these numbers of places."""
    return Wish(Machine("abc", rows), [ring for ring in plain.rings(rows) if len(ring) in sizes])


# How many ways down a wish has, and such wishes.
MANY_WAYS = [
    (120, by_size([[(place + leap) % 6 for leap in (1, 2, 3)] for place in range(6)], (5,))),
    (120, by_size([[4, 3, 1], [4, 2, 2], [0, 5, 3], [0, 5, 5], [2, 2, 0], [4, 1, 0]], (2, 4, 6))),
    (121, by_size([[4, 2, 0], [4, 2, 0], [1, 3, 0], [4, 4, 2], [5, 2, 1], [2, 1, 4]], (2, 4, 6))),
    (121, by_size([[5, 1, 4], [4, 3, 1], [3, 4, 1], [0, 1, 2], [3, 1, 0], [0, 2, 0]], (1, 3, 5))),
]


def is_true_plainly(claim):
    """Whether a claim is true, by the document's words."""
    word, wish = claim[:2]
    for first, contrary in CONTRARIES.items():
        if word == contrary:
            return not is_true_plainly((first,) + claim[1:])
    kinds = plain_depth.ring_kinds(wish)
    if word == "chain":
        return plain_depth.longest(kinds)[0 if claim[2] else 1] >= claim[3]
    if word == "ranked":
        return plain_depth.least_ranks(plain_depth.longest(kinds)) <= claim[2]
    if word == "own":
        return not plain_depth.spoilers(kinds)
    if word == "within":
        other = plain_depth.ring_kinds(claim[2])
        return all(other[second] or not kinds[first] for first, second in joint_of(wish, claim[2]))
    if word == "mended":
        return fewest(kinds, claim[2]) <= claim[3]
    return not is_silent_plainly(wish, claim[2])


def joint_of(one, other):
    """The sorted list of all joint rings, by all sets of pairs."""
    return plain.joint(one.machine.rows(), other.machine.rows())


def are_rings_plainly(wish, value):
    """Whether a value is a list of rings, each a tuple of numbers."""
    return type(value) in (list, tuple) and all(is_ring_plainly(wish, ring) for ring in value)


def is_ring_plainly(wish, value):
    """Whether a value is a ring of the wish."""
    return type(value) is tuple and all(type(place) is int for place in value) and value in plain.rings(wish.machine.rows())


def is_chain_plainly(wish, value):
    """Whether a value is a chain of the wish."""
    good = wish.good()
    return are_rings_plainly(wish, value) and len(value) > 0 and all(
        set(one) < set(other) and (one in good) != (other in good) for one, other in zip(value, value[1:]))


def is_ranked_plainly(wish, value):
    """Whether a value is a Ranked of the same words."""
    return type(value) is Ranked and value.letters == wish.letters and not plain_depth.differ(
        wish, value.machine.rows(), value.ranks())


def is_paper_plainly(claim, value):
    """Whether a value is a paper of a claim that is true, by the document's words."""
    word, wish = claim[:2]
    kinds = plain_depth.ring_kinds(wish)
    if word == "chain":
        return is_chain_plainly(wish, value) and kinds[value[0]] is claim[2] and len(value) >= claim[3]
    if word == "not ranked":
        if type(value) not in (list, tuple) or not all(is_chain_plainly(wish, one) for one in value):
            return False
        sizes = [len(one) for one in value]
        return (len(sizes) == 1 and sizes[0] > claim[2]) or (
            sizes == [claim[2]] * 2 and kinds[value[0][0]] != kinds[value[1][0]])
    if word in ("no chain", "ranked", "own"):
        if not is_ranked_plainly(wish, value):
            return False
        rows, ranks = value.machine.rows(), value.ranks()
        if word == "no chain":
            return plain_depth.depth_by_ranks(rows, ranks)[0 if claim[2] else 1] < claim[3]
        return value.machine == wish.machine if word == "own" else len(plain_depth.used(rows, ranks)) <= claim[2]
    if word == "not own":
        return type(value) is tuple and len(value) == 2 and are_rings_plainly(wish, value) and (
            plain_depth.do_spoil(kinds, *value))
    if word == "within":
        return type(value) in (list, tuple) and all(
            type(pair) is tuple and len(pair) == 2 and is_ring_plainly(wish, pair[0]) and is_ring_plainly(claim[2], pair[1])
            for pair in value) and list(value) == joint_of(wish, claim[2])
    if word == "not within":
        return is_word(wish, value) and granted(wish, value.begin, value.lap) and not granted(claim[2], value.begin, value.lap)
    if word == "mended":
        return are_rings_plainly(wish, value) and len(set(value)) == len(value) <= claim[3] and is_of_sort(
            turned(kinds, value), claim[2])
    if word == "not mended":
        return type(value) in (list, tuple) and len(value) > claim[3] and all(
            type(bar) is tuple and len(bar) == 2 and are_rings_plainly(wish, bar) and is_bar(kinds, claim[2], *bar)
            for bar in value) and len({ring for bar in value for ring in bar}) == 2 * len(value)
    return type(value) is tuple and len(value) == 2 and all(is_word(wish, one) for one in value) and are_loud_plainly(
        wish, claim[2], *[(one.begin, one.lap) for one in value])


def is_word(wish, value):
    """Whether a value is a Word over the letters of the wish."""
    return type(value) is Word and set(value.begin + value.lap) <= set(wish.letters)


def claims_about(wish):
    """Many claims about one wish."""
    found = [("own", wish), ("not own", wish)] + [("loud", wish, letter) for letter in wish.letters]
    for number in range(6):
        found += [(word, wish, number) for word in ("ranked", "not ranked")]
        found += [(word, wish, sort, number) for word in ("mended", "not mended") for sort in SORTS]
        found += [(word, wish, is_good, number + 1) for word in ("chain", "no chain") for is_good in (True, False)]
    return found


def claims_about_two(seed, many):
    """Claims about two wishes with the same letters, in several ways one within the other or not."""
    random = Random(seed)
    found = []
    for one, other, _ in some_pairs(seed, many, 3):
        both = [(one, other), (one, one), (one, ~one)]
        if len(one.machine) < 4:
            both.append((one, spread(one, random)))
        if one.machine == other.machine or len(one.machine) * len(other.machine) <= 4:
            both += [(one & other, one), (one, one | other), (one | other, other)]
        found += [(word, first, second) for first, second in both for word in ("within", "not within")]
    return found


class TruthTest(Case):

    def test_claims_about_one_wish(self):
        found = {}
        for wish in SMALL[::2]:
            for claim in claims_about(wish):
                expected = is_true_plainly(claim)
                self.gives(expected, is_true, claim=claim)
                self.gives(True, is_claim, value=claim)
                found.setdefault(claim[0], []).append(expected)
        for word, answers in found.items():
            self.assertGreater(min(answers.count(True), answers.count(False)), 5, word)
        self.assertEqual(len(found), 9)

    def test_claims_about_two_wishes(self):
        answers = []
        for claim in claims_about_two(1409, 70):
            expected = is_true_plainly(claim)
            self.gives(expected, is_true, claim=claim)
            answers.append((claim[0], expected))
        for key in [(word, answer) for word in ("within", "not within") for answer in (True, False)]:
            self.assertGreater(answers.count(key), 40)

    def test_just_one_of_both_is_true(self):
        for wish in WISHES[::3] + [ODD, MIXED]:
            for claim in claims_about(wish):
                if claim[0] in CONTRARIES:
                    self.assertIs(is_true((CONTRARIES[claim[0]],) + claim[1:]), not is_true(claim))
        for claim in claims_about_two(1423, 60):
            if claim[0] == "within":
                self.assertIs(is_true(("not within",) + claim[1:]), not is_true(claim))

    def test_told_claims(self):
        for claim, expected in [
                (("chain", BOTH, False, 2), True), (("chain", BOTH, False, 3), False), (("chain", BOTH, True, 1), True),
                (("chain", BOTH, True, 2), False), (("no chain", BOTH, True, 2), True), (("loud", SEEN, "b"), False),
                (("no chain", BOTH, False, 2), False), (("loud", SEEN, "a"), True), (("own", BOTH), True), (("own", MIXED), False),
                (("not own", MIXED), True), (("ranked", BOTH, 2), True), (("ranked", BOTH, 1), False), (("ranked", SEEN, 1), False),
                (("not ranked", SEEN, 1), True), (("ranked", SEEN, 2), True), (("mended", BOTH, "again", 0), True),
                (("mended", BOTH, "at last", 0), False), (("not mended", BOTH, "at last", 0), True), (("within", BOTH, BOTH), True),
                (("not mended", BOTH, "at last", 1), False), (("within", BOTH, ~BOTH), False), (("not within", ~BOTH, BOTH), True),
                (("chain", Wish(FREE, []), True, 1), False), (("no chain", Wish(FREE, []), True, 1), True)]:
            self.gives(expected, is_true, claim=claim)
            self.assertIs(is_true_plainly(claim), expected)


class PaperTest(Case):

    def check_paper(self, claim):
        """The paper of a claim is one by the document's words; there is none if the claim is not true."""
        found = paper_of(claim)
        self.gives(found, paper_of, claim=claim)
        if not is_true(claim):
            self.assertIs(found, None)
        else:
            self.assertTrue(is_paper_plainly(claim, found), claim)
            self.gives(True, is_paper, claim=claim, value=found)
            if claim[0] in ("chain", "not ranked", "within", "mended", "not mended"):
                self.assertIs(type(found), list)
                self.gives(True, is_paper, claim=claim, value=tuple(found))
        return found

    def test_claims_about_one_wish(self):
        for wish in WISHES[::4] + [ODD, MIXED]:
            for claim in claims_about(wish):
                self.check_paper(claim)

    def test_claims_about_two_wishes(self):
        for claim in claims_about_two(1427, 60):
            self.check_paper(claim)

    def test_papers_of_other_claims(self):
        random = Random(1429)
        answers = {}
        for wish in SMALL[::4] + [ODD, MIXED]:
            claims = claims_about(wish)
            papers = [paper for paper in (paper_of(claim) for claim in claims) if paper is not None]
            papers += [own_ranks(wish), ranked_of(wish), [], [[]], (), wish, [wish.good()], wish.good(), wish.bad()]
            for claim in claims:
                for paper in random.sample(papers, 6) + [paper_of(claim)]:
                    expected = is_true(claim) and is_paper_plainly(claim, paper)
                    self.gives(expected, is_paper, claim=claim, value=paper)
                    answers.setdefault(claim[0], []).append(expected)
        for word, found in answers.items():
            self.assertGreater(min(found.count(True), found.count(False)), 5, word)

    def test_not_ranked(self):
        claim = ("not ranked", SEEN, 1)
        for value, expected in [([[(0,)], [(1,)]], True), ([[(1,)], [(0,)]], True), ((((0,),), ((1,),)), True), ([[(0,)]], False),
                                ([[(0,)], [(0,)]], False), ([[(0,)], [(1,)], [(1,)]], False), ([], False), ([(0,)], False),
                                ([(0,), (1,)], False), ([[(0,)], [(2,)]], False), ([[(False,)], [(1,)]], False), ([[[0]], [[1]]], False)]:
            self.gives(expected, is_paper, claim=claim, value=value)
        claim = ("not ranked", BOTH, 1)
        for value, expected in [([[(0,), (0, 1)]], True), ([[(1,), (0, 1)]], True), ([[(0,)], [(0, 1)]], True),
                                ([[(0,), (0, 1)], [(0, 1)]], False), ([[(0, 1)]], False), ([[(0,), (0, 1)], [(0,), (0, 1)]], False)]:
            self.gives(expected, is_paper, claim=claim, value=value)
        self.gives(True, is_paper, claim=("not ranked", BOTH, 0), value=[[(0, 1)]])
        self.gives(False, is_paper, claim=("not ranked", BOTH, 0), value=[[(0,)], [(0, 1)]])
        self.gives(False, is_paper, claim=("not ranked", BOTH, 0), value=[[], []])
        self.gives([[(0,)], [(1,)]][::-1], paper_of, claim=("not ranked", SEEN, 1))
        self.assertEqual(paper_of(("not ranked", BOTH, 2)), None)

    def test_ranked_machines_as_papers(self):
        more = Ranked(LAST, [[3, 4], [4, 3]])
        three = Ranked(LAST, [[1, 2], [4, 1]])
        other = Ranked(LAST, [[1, 1], [2, 1]])
        moved = Ranked(Machine("ab", [[1, 0], [1, 0]]), [[1, 1], [1, 2]])
        for value, two, own, least in [(more, True, True, True), (three, False, True, True), (other, True, True, True),
                                       (Ranked(LAST, [[1, 2], [2, 2]]), False, False, False), (BOTH, False, False, False)]:
            same = is_ranked_plainly(BOTH, value)
            self.gives(same and two, is_paper, claim=("ranked", BOTH, 2), value=value)
            self.gives(same and own, is_paper, claim=("own", BOTH), value=value)
            self.gives(same and least, is_paper, claim=("no chain", BOTH, True, 2), value=value)
            self.gives(False, is_paper, claim=("no chain", BOTH, False, 2), value=value)
        self.gives(False, is_paper, claim=("own", BOTH), value=moved)
        self.gives(False, is_paper, claim=("own", BOTH), value=Ranked(Machine("ax", [[0, 1], [0, 1]]), [[1, 2], [2, 1]]))
        # It is a Ranked of the same words, but on another machine.
        wider = Wish(Machine("ab", [[1, 2], [1, 2], [1, 2]]), [[1, 2]])
        self.gives(True, is_paper, claim=("ranked", wider, 2), value=more)
        self.gives(False, is_paper, claim=("own", wider), value=more)
        self.gives(True, is_paper, claim=("own", wider), value=own_ranks(wider))

    def test_all_joint_rings(self):
        claim = ("within", BOTH, Wish(LAST, [[0], [0, 1]]))
        right = [((0,), (0,)), ((0, 1), (0, 1)), ((1,), (1,))]
        self.gives(right, paper_of, claim=claim)
        self.gives(True, is_paper, claim=claim, value=tuple(right))
        for value in [right[::-1], right[:2], right + right[:1], [list(pair) for pair in right], [((False,), (0,))] + right[1:],
                      [([0], [0])] + right[1:], right[:2] + [((1,), (True,))], right + [((1,), (0,))], [], None,
                      right[:1] + [((0, 1), (0, 1), (0, 1))] + right[2:], [plain.Hostile()] * 3, right[:2] + [plain.Hostile()],
                      right[:2] + [((1,), plain.Hostile())]]:
            self.gives(False, is_paper, claim=claim, value=value)
        # All joint rings show nothing if the claim is not true.
        self.gives(False, is_paper, claim=("within", claim[2], BOTH), value=right)
        self.gives(None, paper_of, claim=("within", claim[2], BOTH))

    def test_words_beyond(self):
        answers = []
        for claim in claims_about_two(1433, 40):
            if claim[0] == "not within" and is_true(claim):
                one, other = claim[1:]
                for begin, lap in plain.words(one.letters, 1, 2):
                    kinds = granted(one, begin, lap), granted(other, begin, lap)
                    answers.append(kinds)
                    self.gives(kinds == (True, False), is_paper, claim=claim, value=Word(begin, lap))
        for kinds in [(one, other) for one in (True, False) for other in (True, False)]:
            self.assertGreater(answers.count(kinds), 30)
        claim = ("not within", Wish(LAST, [[0], [0, 1]]), BOTH)
        self.gives(True, is_paper, claim=claim, value=Word("b", "a"))
        self.gives(False, is_paper, claim=claim, value=Word("c", "a"))

    def test_mended(self):
        claim = ("mended", ~BOTH, "again", 1)
        for value, expected in [([(0, 1)], True), (((0, 1),), True), ([(0,), (1,)], False), ([], False), ([(0, 1), (0, 1)], False),
                                ([[0, 1]], False), ([(0, True)], False), ([(0,)], False), ((0, 1), False), (None, False)]:
            self.gives(expected, is_paper, claim=claim, value=value)
        self.gives(True, is_paper, claim=claim[:3] + (2,), value=[(1,), (0,)])
        self.gives(False, is_paper, claim=claim[:3] + (2,), value=[(0,), (0,)])
        self.gives(False, is_paper, claim=claim[:3] + (2,), value=[(0,), (1,), (0, 1)])
        self.gives(True, is_paper, claim=claim[:3] + (3,), value=[(0,), (1,), (0, 1)])
        self.gives(False, is_paper, claim=claim[:3] + (3,), value=[(0,), (1,)][:1])
        self.gives(False, is_paper, claim=claim[:3] + (0,), value=[(0, 1)])

    def test_any_value(self):
        claims = [("chain", BOTH, False, 1), ("no chain", BOTH, True, 2), ("ranked", BOTH, 2), ("not ranked", BOTH, 0), ("own", BOTH),
                  ("not own", MIXED), ("within", BOTH, BOTH), ("not within", BOTH, ~BOTH), ("mended", BOTH, "again", 1),
                  ("not mended", BOTH, "at last", 0), ("loud", BOTH, "a")]
        for claim in claims:
            self.assertIs(is_true(claim), True)
            for value in plain.odd_values() + [BOTH, Word("", "a"), LAST]:
                for made in (lambda: value, lambda: [value], lambda: (value,), lambda: [value, value], lambda: (value, value)):
                    expected = is_paper_plainly(claim, made())
                    self.gives(expected, is_paper, claim=claim, value=made())


class IsClaimTest(Case):

    def wrong(self, value):
        """The value is no claim."""
        self.gives(False, is_claim, value=value)
        self.fails_named(InvalidClaim, {"value": value}, is_true, claim=value)
        self.fails_named(InvalidClaim, {"value": value}, paper_of, claim=value)
        self.fails_named(InvalidClaim, {"value": value}, is_paper, claim=value, value=None)

    RIGHT = [("chain", BOTH, True, 1), ("no chain", BOTH, False, 1), ("ranked", BOTH, 0), ("not ranked", BOTH, 0), ("own", BOTH),
             ("not own", BOTH), ("within", BOTH, SEEN), ("not within", BOTH, SEEN), ("mended", BOTH, "again", 0),
             ("not mended", BOTH, "at last", 0), ("loud", BOTH, "b")]

    def test_right_claims(self):
        for claim in self.RIGHT:
            self.gives(True, is_claim, value=claim)
            self.assertIs(type(is_true(claim)), bool)

    def test_any_value(self):
        for value in plain.odd_values() + ["own", ("own",), ("chain",), list(self.RIGHT[0]), BOTH, (BOTH, "own")]:
            self.wrong(value)

    def test_values_within(self):
        right_at = {"chain": {2: bool, 3: int}, "no chain": {2: bool, 3: int}, "ranked": {2: int}, "not ranked": {2: int},
                    "mended": {3: int}, "not mended": {3: int}, "loud": {2: str}}
        for claim in self.RIGHT:
            self.wrong(claim[:-1])
            self.wrong(claim + claim[-1:])
            self.wrong(list(claim))
            for at in range(len(claim)):
                for value in plain.odd_values():
                    kind = right_at.get(claim[0], {}).get(at)
                    made = claim[:at] + (value,) + claim[at + 1:]
                    least = 1 if claim[0] in ("chain", "no chain") else 0
                    if kind is not None and type(value) is kind and (kind is bool or (
                            kind is int and value >= least) or (kind is str and value in ("a", "b"))):
                        self.gives(True, is_claim, value=made)
                    else:
                        self.wrong(made)

    def test_numbers(self):
        for word in ("chain", "no chain"):
            self.wrong((word, BOTH, True, 0))
            self.wrong((word, BOTH, True, True))
            self.wrong((word, BOTH, True, -1))
            self.wrong((word, BOTH, 1, 1))
            self.gives(True, is_claim, value=(word, BOTH, True, 10 ** 20))
        for word in ("ranked", "not ranked"):
            self.gives(True, is_claim, value=(word, BOTH, 0))
            self.wrong((word, BOTH, False))

    def test_sorts_and_letters(self):
        for word in ("mended", "not mended"):
            for sort in ["weak", "Again", "", "at  last", None, ("again",)]:
                self.wrong((word, BOTH, sort, 1))
        for letter in ["c", "", "ab", "A", None, ("a",)]:
            self.wrong(("loud", BOTH, letter))

    def test_wishes(self):
        other = Wish(Machine("xy", [[0, 1], [0, 1]]), [[0]])
        for word in ("within", "not within"):
            self.wrong((word, BOTH, other))
            self.wrong((word, other, BOTH))
            self.wrong((word, BOTH, Wish(Machine("a", [[0]]), [])))
            self.wrong((word, BOTH, LAST))
            self.gives(True, is_claim, value=(word, other, ~other))

    def test_many_ways(self):
        for number, wish in MANY_WAYS:
            self.assertEqual(how_many_ways(wish), number)
            for claim in [("no chain", wish, True, 9), ("no chain", wish, False, 1), ("ranked", wish, 9), ("ranked", wish, 0)]:
                if number > 120:
                    self.wrong(claim)
                else:
                    self.gives(True, is_claim, value=claim)
            for claim in [("chain", wish, True, 1), ("not ranked", wish, 1), ("own", wish), ("not own", wish),
                          ("mended", wish, "again", 2), ("within", wish, wish)]:
                self.gives(True, is_claim, value=claim)
                self.assertIs(type(is_true(claim)), bool)
                self.assertIs(is_true(claim), paper_of(claim) is not None)
            if number == 120:
                for claim in [("ranked", wish, 9), ("no chain", wish, True, 8), ("no chain", wish, False, 8)]:
                    self.assertIs(is_true(claim), True)
                    self.assertIs(is_paper(claim, paper_of(claim)), True)


class UnchangedTest(Case):

    def test_lists_changed_behind(self):
        claims = [("chain", BOTH, False, 1), ("not ranked", BOTH, 1), ("within", BOTH, BOTH), ("mended", ~BOTH, "again", 1),
                  ("not mended", BOTH, "at last", 0)]
        ahead = repr([paper_of(claim) for claim in claims])
        for claim in claims:
            paper_of(claim).append(None)
            paper_of(claim).clear()
        self.assertEqual(repr([paper_of(claim) for claim in claims]), ahead)
        given = [(0, 1)]
        self.assertIs(is_paper(claims[3], given), True)
        self.assertEqual(given, [(0, 1)])

    def test_calls_change_nothing(self):
        claims = [claim for wish in WISHES[::25] for claim in claims_about(wish)]
        ahead = repr(claims)
        first = [(is_true(claim), repr(paper_of(claim))) for claim in claims]
        self.assertEqual([(is_true(claim), repr(paper_of(claim))) for claim in claims[::-1]][::-1], first)
        self.assertEqual(repr(claims), ahead)

    def test_many_rings(self):
        for machine in rounds()[4:8:3]:
            wish = Wish(machine, [ring for ring in plain.rings(machine.rows()) if len(ring) % 2])
            paper = paper_of(("within", wish, wish))
            self.assertLessEqual(len(paper), 4000)
            self.assertIs(is_paper(("within", wish, wish), paper), True)
