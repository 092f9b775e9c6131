"""What the whole program tells of wishes that are the same, whatever their machines."""

from random import Random

from ringdepth.chains import depth, is_again, is_at_last, is_weak, least_ranks
from ringdepth.claims import is_paper, is_true, paper_of
from ringdepth.desk import Desk
from ringdepth.edits import joined, renamed, split
from ringdepth.errors import NotComeTo, NotOne, NotWeak, OtherGoals
from ringdepth.guards import guard, hope, is_guard, is_hope, is_lively, lively, settles_at
from ringdepth.judging import differs, ranked_of
from ringdepth.machines import Machine
from ringdepth.mended import how_many_turned
from ringdepth.nests import how_many_ways, kinds, nest, wish_of_nest
from ringdepth.plans import fits_plan, wish_of
from ringdepth.ranked import own_depth
from ringdepth.rings import rings, word_of
from ringdepth.same import are_alike, classes, is_same, parting
from ringdepth.settled import answers, first_settling, how_many_open, is_watcher, settled, watcher
from ringdepth.silent import is_silent
from ringdepth.texts import read_ranked, read_wish, text_of
from ringdepth.weak import is_least, least, passes
from ringdepth.wishes import Wish
from ringdepth.words import Word
from tests import plain
from tests.cases import Case, drawn_wishes, granted, turned_about
from tests.test_plans import drawn_plans, places_plainly

WISHES = drawn_wishes(1601, 40)[::7]


def split_somewhere(wish, random):
    """The wish with a twin of some place, or None if those that are drawn cannot be."""
    rows = wish.machine.rows()
    for _ in range(8):
        place = random.randrange(len(rows))
        steps = [(start, letter) for start, row in enumerate(rows) for letter, goal in zip(wish.letters, row)
                 if goal == place and random.randrange(2)]
        if len(rows) < 6:
            try:
                return split(wish, place, steps)
            except NotComeTo:
                pass
    return None


def joined_somewhere(wish):
    """The wish with two places joined, or None if none may be."""
    for one in range(len(wish.machine)):
        for other in range(one):
            try:
                return joined(wish, one, other)
            except (OtherGoals, NotOne):
                pass
    return None


def same_wishes(wish, random):
    """The dict from ways to wishes that are the same as this one."""
    every = Wish(Machine(wish.letters, [[0] * len(wish.letters)]), [[0]])
    names = {1: "q", 2: "mn", 3: "xyz"}[len(wish.letters)]
    about = turned_about(wish, random)
    desk = Desk(~wish)
    desk.put(wish)
    found = {
        "split": split_somewhere(wish, random), "joined": joined_somewhere(wish), "renamed": renamed(renamed(wish, names), wish.letters),
        "turned about": about, "numbered": about.at(0), "begun at 0": wish.at(0), "read": read_wish(text_of(wish)), "not not": ~~wish,
        "paired": wish & wish, "with every": wish & every, "either": wish | ~every, "without": every - ~wish, "turned twice": wish.turned(
            wish.good()).turned(wish.good()[::-1]), "of its nest": wish_of_nest(wish.machine, kinds(wish), nest(wish)),
        "on a desk": desk.wish, "its parts": Wish(wish.machine, wish.bad()).turned(rings(wish.machine)),
    }
    if found["split"] is not None:
        found["split, joined"] = joined_somewhere(found["split"])
        found["split, turned about"] = turned_about(found["split"], random)
    if len(wish.machine) < 4:
        found["guard and lively"] = guard(wish) & lively(wish)
        found["paired otherwise"] = ~(~about | ~wish) if len((wish & wish).machine) == len(wish.machine) else None
    return {way: made for way, made in found.items() if made is not None}


def told_by_words(wish):
    """What stages tell of a wish that hangs on its words alone."""
    told = [depth(wish), least_ranks(wish), is_again(wish), is_at_last(wish), is_weak(wish), watcher(wish), is_guard(wish),
            is_hope(wish), is_lively(wish), [first_settling(wish, is_good) for is_good in (True, False)],
            [how_many_open(wish, number) for number in (0, 1, 2, 5, 60)], [is_silent(wish, letter) for letter in wish.letters],
            [settled(wish, text) for text in plain.texts(wish.letters, 2)],
            [how_many_turned(wish, sort) == 0 for sort in ("again", "at last", "weak")]]
    made = [wish, guard(wish), hope(wish), lively(wish)]
    for begin, lap in plain.words(wish.letters, 1, 2):
        word = Word(begin, lap)
        told.append(([one(word) for one in made], settles_at(wish, word)))
    try:
        return told + [passes(wish), least(wish)]
    except NotWeak:
        return told


class SameWishesTest(Case):

    def test_the_same_is_told(self):
        random = Random(1607)
        ways = {}
        for wish in WISHES:
            expected = told_by_words(wish)
            for way, same in same_wishes(wish, random).items():
                ways[way] = ways.get(way, 0) + (same.machine != wish.machine)
                self.assertIs(is_same(same, wish), True, way)
                self.assertEqual(told_by_words(same), expected, way)
                self.assertIs(parting(same, wish), None)
                self.assertIs(is_watcher(wish, watcher(same)), True)
                self.assertIs(are_alike(wish, 0, 0), True)
        self.assertEqual(len(ways), 20)
        for way in ("split", "joined", "turned about", "split, joined", "split, turned about"):
            self.assertGreater(ways[way], 15, way)

    def test_one_ranked_machine_tells_all_of_them(self):
        random = Random(1609)
        for wish in WISHES[::2]:
            if how_many_ways(wish) <= 60:
                ranked = ranked_of(wish)
                self.assertEqual(own_depth(ranked), depth(wish))
                self.assertEqual(read_ranked(text_of(ranked)), ranked)
                for way, same in same_wishes(wish, random).items():
                    self.assertIs(differs(same, ranked), None, way)
                    self.assertEqual(own_depth(ranked), depth(same))

    def test_unlike_wishes_are_told_apart(self):
        random = Random(1613)
        for wish in WISHES[::2]:
            ring = random.choice(rings(wish.machine))
            other = wish.turned([ring])
            word = word_of(wish.machine, ring)
            self.assertNotEqual(wish(word), other(word))
            for same in same_wishes(wish, random).values():
                self.assertIs(is_same(same, other), False)
                found = parting(same, other)
                self.assertNotEqual(granted(same, found.begin, found.lap), granted(other, found.begin, found.lap))
                self.assertIs(text_of(same) == text_of(other), False)

    def test_papers_of_same_wishes(self):
        random = Random(1619)
        for wish in WISHES[::2]:
            if how_many_ways(wish) > 30:
                continue
            for same in same_wishes(wish, random).values():
                good, bad = depth(wish)
                claims = [("chain", True, good + 1), ("no chain", True, good + 1), ("chain", False, max(1, bad)),
                          ("no chain", False, bad + 1), ("ranked", least_ranks(wish)), ("not ranked", least_ranks(wish) - 1)]
                for word, *about in claims:
                    one, other = (word, wish, *about), (word, same, *about)
                    self.assertIs(is_true(one), is_true(other))
                    # A ranked machine of the one wish is a paper for the other one.
                    if word in ("no chain", "ranked") and is_true(one) and how_many_ways(same) <= 120:
                        self.assertIs(is_paper(other, paper_of(one)), True)
                self.assertIs(is_true(("within", wish, same)) and is_true(("within", same, wish)), True)
                self.assertIs(is_paper(("within", wish, same), paper_of(("within", wish, same))), True)

    def test_guarantees(self):
        for wish in WISHES:
            for ring in rings(wish.machine):
                self.assertEqual(wish.machine.met(word_of(wish.machine, ring)), ring)
            good, bad = depth(wish)
            self.assertLessEqual(abs(good - bad), 1)
            self.assertGreater(good + bad, 0)
            self.assertIs(is_true(("own", wish)), not is_true(("not own", wish)))
            self.assertIs(is_same(guard(wish), wish), is_guard(wish))
            words = answers(wish)
            for place, row in enumerate(wish.machine.rows()):
                if words[place] != "open":
                    self.assertEqual({words[goal] for goal in row}, {words[place]})
            for sort in ("again", "at last"):
                number = how_many_turned(wish, sort)
                self.assertIs(is_true(("mended", wish, sort, number)), True)
                self.assertIs(number == 0 or is_true(("not mended", wish, sort, number - 1)), True)
            if is_weak(wish):
                self.assertIs(is_least(wish), len(least(wish).machine) == len(wish.machine))
                self.assertEqual(len(classes(wish)), len(least(wish).machine))

    def test_wishes_of_plans(self):
        random = Random(1621)
        for letters, plan in drawn_plans(1627, 80, 3):
            if places_plainly(letters, plan)[1] <= 6:
                wish = wish_of(letters, plan)
                for same in same_wishes(wish, random).values():
                    for begin, lap in plain.words(letters, 1, 2):
                        self.assertIs(same(Word(begin, lap)), fits_plan(letters, plan, Word(begin, lap)))
