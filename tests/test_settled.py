"""What a begin settles, and watchers, against all rings that are come to, all short texts and many words."""

from random import Random

from ringdepth.errors import InvalidNumber, InvalidText, TooMany
from ringdepth.machines import Machine
from ringdepth.settled import answers, first_settling, how_many_open, is_watcher, open_for_ever, settled, watcher
from ringdepth.wishes import Wish
from tests import plain, plain_depth
from tests.cases import LAST, Case, drawn_wishes, granted, random_rows, spread, turned_about, wide_rows

BOTH = Wish(LAST, [[0, 1]])
SEEN = Wish(Machine("ab", [[1, 0], [1, 1]]), [[1]])
WISHES = drawn_wishes(601, 40)


def split_words(wish, random, places):
    """A watcher of more places: the machine of the wish beside another one, with the answers of the wish."""
    rows, listed = plain.pairs(wish.machine.rows(), random_rows(random, places, wish.letters))
    order = sorted(plain.come_to(rows))
    right = plain_depth.answers(wish)
    return (Machine(wish.letters, [[order.index(goal) for goal in rows[place]] for place in order]),
            [right[listed[place][0]] for place in order])


def is_watcher_plainly(wish, machine, words):
    """Whether each place that both come to together has the right answer, walking both side by side."""
    right = plain_depth.answers(wish)
    rows, listed = plain.pairs(wish.machine.rows(), machine.rows())
    return all(words[listed[place][1]] == right[listed[place][0]] for place in plain.come_to(rows))


class SettledTest(Case):

    def test_answers(self):
        kinds = []
        for wish in WISHES:
            expected = plain_depth.answers(wish)
            self.gives(expected, answers, wish=wish)
            kinds += expected
            for text in plain.texts(wish.letters, 3):
                place = plain.goes(wish.machine.rows(), wish.letters, 0, text)
                self.gives(expected[place], settled, wish=wish, text=text)
        self.assertGreater(min(kinds.count(word) for word in ("yes", "no", "open")), 300)

    def test_by_words(self):
        both = 0
        for wish in WISHES[::4]:
            words = plain.words(wish.letters, 1, 3)
            for text in plain.texts(wish.letters, 1):
                told = settled(wish, text)
                found = {granted(wish, text + begin, lap) for begin, lap in words}
                if told == "open":
                    both += found == {False, True}
                else:
                    self.assertEqual(found, {told == "yes"})
        self.assertGreater(both, 100)

    def test_what_is_settled_stays_so(self):
        for wish in WISHES:
            for text in plain.texts(wish.letters, 2):
                told = settled(wish, text)
                for letter in wish.letters:
                    if told != "open":
                        self.assertEqual(settled(wish, text + letter), told)

    def test_not_turns_the_answers(self):
        other = {"yes": "no", "no": "yes", "open": "open"}
        for wish in WISHES:
            self.assertEqual(answers(~wish), [other[word] for word in answers(wish)])

    def test_long_texts(self):
        self.assertEqual(settled(SEEN, "b" * 8000), "open")
        self.assertEqual(settled(SEEN, "b" * 7999 + "a"), "yes")
        self.assertEqual(settled(BOTH, ""), "open")

    def test_values_that_are_no_texts(self):
        for value in plain.odd_values() + ["c", "ac", "aXb", "a b", ["a"], ("a", "b"), b"ab", "ab\n"]:
            if not (type(value) is str and set(value) <= set("ab")):
                self.fails_named(InvalidText, {"value": value}, settled, wish=SEEN, text=value)


class FirstSettlingTest(Case):

    def test_by_all_texts(self):
        found = []
        for wish in WISHES:
            right = plain_depth.answers(wish)
            least = plain.least_texts(wish.machine.rows(), wish.letters)
            for is_good, word in ((True, "yes"), (False, "no")):
                # Texts come by their length, those of one length in the sequence of Python.
                expected = next((text for text in plain.texts(wish.letters, 5) if right[plain.goes(
                    wish.machine.rows(), wish.letters, 0, text)] == word), None)
                self.assertIs(expected is None, word not in [right[place] for place in least])
                self.gives(expected, first_settling, wish=wish, is_good=is_good)
                found.append(expected)
        self.assertIn("", found)
        self.assertIn(None, found)
        self.assertGreater(max(len(text) for text in found if text), 2)

    def test_longest(self):
        way = Machine("ab", [[1, 0], [2, 0], [3, 0], [4, 0], [5, 0], [5, 5]])
        self.assertEqual(first_settling(Wish(way, [[5]]), True), "aaaaa")
        self.assertIsNone(first_settling(Wish(way, [[5]]), False))
        # The shorter text is less, though another one comes ahead of it in a dictionary.
        short = Machine("ab", [[1, 2], [2, 2], [2, 2]])
        self.assertEqual(first_settling(Wish(short, [[2]]), True), "")
        # Of two texts of one length the first one is less, whichever place it leads to.
        four = Machine("abc", [[2, 1, 3], [1, 1, 1], [2, 2, 2], [3, 3, 3]])
        self.assertEqual(first_settling(Wish(four, [[1], [2]]), True), "a")
        self.assertEqual(first_settling(Wish(four, [[1], [3]]), True), "b")
        self.assertEqual(first_settling(Wish(four, [[2]]), False), "b")
        both = Machine("ab", [[1, 2], [2, 1], [2, 2]])
        self.assertEqual(first_settling(Wish(both, [[2]]), True), "b")


class HowManyOpenTest(Case):

    def test_by_all_short_texts(self):
        for wish in WISHES[::2]:
            right = plain_depth.answers(wish)
            for many in range(5):
                found = [text for text in plain.texts(wish.letters, many) if len(text) == many]
                rows = wish.machine.rows()
                expected = sum(right[plain.goes(rows, wish.letters, 0, text)] == "open" for text in found)
                self.gives(expected, how_many_open, wish=wish, number=many)

    def test_by_a_sum(self):
        for wish in WISHES:
            rows = wish.machine.rows()
            right = plain_depth.answers(wish)
            there = {0: 1}
            for many in range(61):
                expected = sum(texts for place, texts in there.items() if right[place] == "open")
                if many in (0, 1, 7, 20, 33, 59, 60):
                    self.gives(expected, how_many_open, wish=wish, number=many)
                after = {}
                for place, texts in there.items():
                    for goal in rows[place]:
                        after[goal] = after.get(goal, 0) + texts
                there = after
        three = Wish(Machine("abc", [[0, 1, 1], [1, 0, 0]]), [[0, 1]])
        self.assertEqual(how_many_open(three, 60), 3 ** 60)

    def test_numbers_that_are_none(self):
        for value in plain.odd_values() + [-5, "3", [1], (2,)]:
            if not (type(value) is int and value >= 0):
                self.fails_named(InvalidNumber, {"value": value}, how_many_open, wish=SEEN, number=value)

    def test_60_letters_and_61(self):
        self.assertEqual(how_many_open(SEEN, 60), 1)
        for many in (61, 62, 1000, 10 ** 29):
            self.fails_named(TooMany, {"what": "letters", "limit": 60}, how_many_open, wish=SEEN, number=many)


class OpenForEverTest(Case):

    def test_by_places_that_are_come_to(self):
        found = []
        for wish in WISHES:
            rows = wish.machine.rows()
            right = plain_depth.answers(wish)
            expected = [place for place in range(len(rows))
                        if {right[near] for near in plain.come_to(rows, place)} == {"open"}]
            self.gives(expected, open_for_ever, wish=wish)
            found.append((len(expected), "open" in right))
        self.assertIn((0, True), found)
        self.assertIn((0, False), found)
        self.assertIn((6, True), found)


class WatcherTest(Case):

    def alike(self, wish, one, other):
        """Whether each short text leads from two places to the same answer."""
        rows = wish.machine.rows()
        right = plain_depth.answers(wish)
        led = [[plain.goes(rows, wish.letters, place, text) for place in (one, other)]
               for text in plain.texts(wish.letters, 5)]
        return all(right[first] == right[second] for first, second in led)

    def told_apart(self, wish):
        """The classes of places with the same answers, by marking pairs until nothing changes."""
        rows = wish.machine.rows()
        right = plain_depth.answers(wish)
        many = range(len(rows))
        apart = {(one, other) for one in many for other in many if right[one] != right[other]}
        while True:
            more = {(one, other) for one in many for other in many
                    if (one, other) not in apart and any(goals in apart for goals in zip(rows[one], rows[other]))}
            if not more:
                return [[other for other in many if (one, other) not in apart] for one in many]
            apart |= more

    def check_least(self, wish):
        """The least watcher is that of the classes, numbered as come to."""
        classes = self.told_apart(wish)
        rows = wish.machine.rows()
        right = plain_depth.answers(wish)
        order = [classes[0]]
        for kin in order:
            for goal in rows[kin[0]]:
                if classes[goal] not in order:
                    order.append(classes[goal])
        expected = Machine(wish.letters, [[order.index(classes[goal]) for goal in rows[kin[0]]] for kin in order])
        self.gives((expected, [right[kin[0]] for kin in order]), watcher, wish=wish)
        return len(order)

    def test_least_watchers(self):
        sizes = set()
        for wish in WISHES:
            sizes.add(self.check_least(wish))
            found = watcher(wish)
            self.assertIs(type(found[1]), list)
            self.assertTrue(is_watcher_plainly(wish, *found))
            self.gives(True, is_watcher, wish=wish, value=found)
            self.assertEqual(found[0], found[0].numbered())
        self.assertTrue({1, 2, 3, 4} <= sizes)

    def test_places_that_are_told_apart(self):
        for wish in WISHES[::25]:
            classes = self.told_apart(wish)
            for one in range(len(wish.machine)):
                for other in range(len(wish.machine)):
                    self.assertIs(other in classes[one], self.alike(wish, one, other))

    def test_numbered_as_come_to(self):
        machine = Machine("ab", [[2, 1], [1, 1], [3, 4], [3, 3], [4, 4]])
        # The places of the least watcher come in the sequence of texts, not in that of the answers or of the places.
        self.assertEqual(watcher(Wish(machine, [[1], [4]])),
                         (Machine("ab", [[1, 2], [3, 2], [2, 2], [3, 3]]), ["open", "open", "yes", "no"]))
        self.assertEqual(watcher(Wish(machine, [[3], [4]])),
                         (Machine("ab", [[1, 2], [1, 1], [2, 2]]), ["open", "yes", "no"]))

    def test_same_wishes_have_one_least_watcher(self):
        random = Random(607)
        for wish in WISHES:
            self.assertEqual(watcher(turned_about(wish, random)), watcher(wish))
            if len(wish.machine) < 6:
                self.assertEqual(watcher(spread(wish, random)), watcher(wish))

    def test_greater_watchers(self):
        random = Random(613)
        answers_found = []
        most = 0
        for wish in WISHES[::6]:
            machine, words = split_words(wish, random, 120 // len(wish.machine))
            most = max(most, len(machine))
            self.assertIs(is_watcher(wish, (machine, words)), True)
            self.assertIs(is_watcher(wish, (machine, tuple(words))), True)
            for _ in range(3):
                changed = list(words)
                changed[random.randrange(len(words))] = random.choice(["yes", "no", "open"])
                expected = is_watcher_plainly(wish, machine, changed)
                answers_found.append(expected)
                self.assertIs(is_watcher(wish, (machine, changed)), expected)
        self.assertGreater(most, 100)
        self.assertGreater(answers_found.count(False), 100)

    def test_other_machines(self):
        random = Random(617)
        found = []
        for wish in WISHES[::2]:
            for places in (1, 2, 4):
                machine = Machine(wish.letters, random_rows(random, places, wish.letters))
                words = [random.choice(plain_depth.answers(wish)) for _ in range(len(machine))]
                expected = is_watcher_plainly(wish, machine, words)
                found.append(expected)
                self.assertIs(is_watcher(wish, (machine, words)), expected)
        self.assertIn(True, found)
        self.assertIn(False, found)
        machine = Machine("ab", wide_rows(random, 120, "ab"))
        self.assertIs(is_watcher(BOTH, (machine, ["open"] * 120)), True)
        self.assertIs(is_watcher(BOTH, (machine, ["open"] * 119 + ["no"])), False)
        self.assertIs(is_watcher(BOTH, (machine, ["open"] * 119)), False)
        self.assertIs(is_watcher(BOTH, (machine, ["open"] * 121)), False)

    def test_is_watcher_for_any_value(self):
        machine, words = watcher(SEEN)
        self.assertEqual(words, ["open", "yes"])
        others = [[machine, words], (machine,), (machine, words, words), (machine, ["open"]),
                  (machine, ["open", "yes", "no"]), (machine, ["open", "no"]), (machine, ["open", True]),
                  (machine, ["open", None]), (machine, "open"),
                  (machine, {"open": 0, "yes": 1}), (machine, ["open", plain.Hostile()]), (machine, plain.Hostile()),
                  (machine, [plain.Broken(), "yes"]), (machine, plain.Broken()), (plain.Hostile(), words),
                  (SEEN, words),
                  (machine.rows(), words), (None, words), (words, machine), (Machine("a", [[0]]), ["open"]),
                  (Machine("ac", [[1, 0], [1, 1]]), words), (Machine("abc", [[1, 0, 0], [1, 1, 1]]), words), machine,
                  words,
                  (machine, ["yes", "open"]), (machine, ["open", ["yes"]]), (machine, ["open", b"yes"])]
        for value in plain.odd_values() + others:
            self.gives(False, is_watcher, wish=SEEN, value=value)
        self.gives(True, is_watcher, wish=SEEN, value=(machine, words))
        self.gives(True, is_watcher, wish=SEEN, value=(machine, ("open", "yes")))


class UnchangedTest(Case):

    def test_lists_changed_behind(self):
        ahead = repr((answers(SEEN), open_for_ever(BOTH), watcher(SEEN)))
        answers(SEEN).clear()
        open_for_ever(BOTH).append(9)
        watcher(SEEN)[1].append("no")
        watcher(SEEN)[0].rows().clear()
        words = ["open", "yes"]
        self.assertIs(is_watcher(SEEN, (SEEN.machine, words)), True)
        self.assertEqual(words, ["open", "yes"])
        self.assertEqual(repr((answers(SEEN), open_for_ever(BOTH), watcher(SEEN))), ahead)

    def test_calls_change_nothing(self):
        wishes = WISHES[::20]
        ahead = repr(wishes)
        asked = [answers, open_for_ever, watcher, lambda wish: first_settling(wish, True),
                 lambda wish: settled(wish, ""), lambda wish: first_settling(wish, False),
                 lambda wish: how_many_open(wish, 9)]
        first = [[ask(wish) for ask in asked] for wish in wishes]
        second = [[ask(wish) for ask in asked[::-1]][::-1] for wish in wishes[::-1]][::-1]
        self.assertEqual(first, second)
        self.assertRaises(InvalidText, settled, wishes[0], None)
        self.assertRaises(TooMany, how_many_open, wishes[0], 61)
        self.assertEqual(repr(wishes), ahead)
