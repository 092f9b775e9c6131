"""Texts of wishes and ranked machines, written line by line and read back, and texts bent in many ways."""

import re
from random import Random

from ringdepth.errors import InvalidLine
from ringdepth.judging import ranked_of
from ringdepth.machines import Machine
from ringdepth.ranked import Ranked
from ringdepth.texts import bytes_of, read_ranked, read_wish, text_of
from ringdepth.wishes import Wish
from tests import plain
from tests.cases import LAST, Case, drawn_wishes, random_rows, ranked_rows, wide_rows

BOTH = Wish(LAST, [[0, 1]])
BOTH_TEXT = "letters ab\nfrom 0 to 0 1\nfrom 1 to 0 1\ngood 0 1\n"
RANKED = Ranked(LAST, [[1, 2], [2, 1]])
RANKED_TEXT = "ranked ab\nfrom 0 to 0 1 1 2\nfrom 1 to 0 2 1 1\n"
NUMERAL = re.compile("(0|[1-9][0-9]*)")
READ = {True: read_wish, False: read_ranked}


def wish_text(wish):
    """The text of a wish, line by line."""
    out = "letters " + wish.letters + "\n"
    for place, row in enumerate(wish.machine.rows()):
        out += "from " + str(place) + " to"
        for goal in row:
            out += " " + str(goal)
        out += "\n"
    for ring in sorted(wish.good()):
        out += "good"
        for place in ring:
            out += " " + str(place)
        out += "\n"
    return out


def ranked_text(ranked):
    """The text of a ranked machine, line by line."""
    out = "ranked " + ranked.letters + "\n"
    for place, row in enumerate(ranked.machine.rows()):
        out += "from " + str(place) + " to"
        for at, goal in enumerate(row):
            out += " " + str(goal) + " " + str(ranked.ranks()[place][at])
        out += "\n"
    return out


def numbers_of(words):
    """The numbers of these words; None if one is no number without needless zeros."""
    return [int(word) for word in words] if all(NUMERAL.fullmatch(word) for word in words) else None


def is_place_line(line, place, letters, is_wish):
    """Whether a line tells this place, but for goals that are no places of the machine."""
    if line.split(" ")[:3] != ["from", str(place), "to"] or place >= (6 if is_wish else 120):
        return False
    numbers = numbers_of(line.split(" ")[3:])
    if numbers is None or len(numbers) != len(letters) * (1 if is_wish else 2):
        return False
    goals, ranks = (numbers, []) if is_wish else (numbers[::2], numbers[1::2])
    return all(goal < (6 if is_wish else 120) for goal in goals) and all(rank <= 12 for rank in ranks)


def wrong_line(text, is_wish):
    """The number of the line that is told to be wrong; None if the text is right."""
    if type(text) is not str:
        return 1
    lines = text.split("\n")
    many_ended = len(lines) - 1
    lines = lines if lines[-1] else lines[:-1]
    head = re.fullmatch(("letters" if is_wish else "ranked") + " ([a-z]{1,3})", lines[0] if lines else "")
    if not head or many_ended < 1 or list(head[1]) != sorted(set(head[1])):
        return 1
    rows, lots = [], []
    for number, line in enumerate(lines[1:], 2):
        if number > many_ended:
            return number
        if not lots and is_place_line(line, len(rows), head[1], is_wish):
            numbers = numbers_of(line.split(" ")[3:])
            rows.append(numbers if is_wish else numbers[::2])
            continue
        lot = numbers_of(line.split(" ")[1:]) if is_wish and rows and line.startswith("good ") else None
        if not lot or any(one >= other for one, other in zip(lot, lot[1:])) or (lots and lots[-1] >= lot):
            return number
        lots.append(lot)
    if not rows:
        return len(lines) + 1
    lost = [place for place, row in enumerate(rows) if max(row) >= len(rows)]
    lost = lost or [place for place in range(len(rows)) if place not in plain.come_to(rows)]
    if lost:
        return 2 + lost[0]
    wrong = [number for number, lot in enumerate(lots, 2 + len(rows)) if max(lot) >= len(rows) or not plain.is_ring(rows, lot)]
    return wrong[0] if wrong else None


WORDS = ["0", "1", "2", "5", "6", "7", "12", "13", "119", "120", "121", "00", "01", "-1", "+1", "", "a", "ab", "ba", "abc",
         "from", "to", "good", "letters", "ranked", "9" * 31, "1" * 40, "0x1", "1.0", "A", "abcd"]


def bent(random, text, others):
    """The text with one thing otherwise."""
    lines = text.split("\n")
    at = random.randrange(len(lines))
    words = lines[at].split(" ")
    near = random.randrange(len(words))
    way = random.randrange(15)
    if way == 0:
        del lines[at]
    elif way == 1:
        lines.insert(at, random.choice(lines))
    elif way == 2:
        other = random.randrange(len(lines))
        lines[at], lines[other] = lines[other], lines[at]
    elif way == 3:
        lines.insert(at, random.choice(random.choice(others).split("\n")))
    elif way == 4:
        words[near] = random.choice(WORDS)
    elif way == 5:
        words.insert(near, random.choice(WORDS))
    elif way == 6:
        del words[near]
    elif way == 7:
        words[near], words[-1] = words[-1], words[near]
    elif way == 8:
        place = random.randrange(len(text) + 1)
        return text[:place] + random.choice(" 01256\nabtf-") + text[place:]
    elif way == 9:
        place = random.randrange(len(text))
        return text[:place] + text[place + 1:]
    elif way == 10:
        place = random.randrange(len(text))
        return text[:place] + random.choice(" 0123456789\nabcxz") + text[place + 1:]
    elif way == 11:
        return text.rstrip("\n") if random.randrange(2) else text + "\n"
    elif way == 12:
        return text.replace("letters", "ranked") if "letters" in text else text.replace("ranked", "letters")
    else:
        words[near] = str(random.randrange(8)) if words[near].isdigit() else words[near]
    if way in (4, 5, 6, 7, 13, 14):
        lines[at] = " ".join(words)
    return "\n".join(lines)


def some_rankeds(seed):
    """Ranked machines of one place up to 120."""
    random = Random(seed)
    found = []
    for number in range(60):
        letters = ["a", "ab", "xyz"][number % 3]
        rows = random_rows(random, 1 + random.randrange(8), letters)
        found.append(Ranked(Machine(letters, rows), ranked_rows(random, rows, random.choice([1, 3, 12]))))
    for places in (11, 119, 120):
        rows = wide_rows(random, places, "ab")
        found.append(Ranked(Machine("ab", rows), ranked_rows(random, rows, 12)))
    return found


WISHES = drawn_wishes(1301, 50, 2)
RANKEDS = some_rankeds(1303)


class WritingTest(Case):

    def test_line_by_line(self):
        for wish in WISHES:
            self.gives(wish_text(wish), text_of, entry=wish)
            self.gives(wish_text(wish).encode("ascii"), bytes_of, entry=wish)
        for ranked in RANKEDS:
            self.gives(ranked_text(ranked), text_of, entry=ranked)
            self.gives(ranked_text(ranked).encode("ascii"), bytes_of, entry=ranked)

    def test_told_texts(self):
        self.assertEqual(text_of(BOTH), BOTH_TEXT)
        self.assertEqual(text_of(RANKED), RANKED_TEXT)
        self.assertEqual(bytes_of(RANKED), RANKED_TEXT.encode())
        self.assertEqual(text_of(Wish(Machine("z", [[0]]), [])), "letters z\nfrom 0 to 0\n")
        self.assertEqual(text_of(~BOTH), BOTH_TEXT[:39] + "good 0\ngood 1\n")

    def test_unlike_wishes_have_unlike_texts(self):
        texts = {}
        for wish in WISHES + RANKEDS:
            texts.setdefault(text_of(wish), []).append(wish)
        for same in texts.values():
            self.assertTrue(all(one == same[0] for one in same))
        for one in WISHES[::9]:
            for other in WISHES[::7]:
                self.assertIs(text_of(one) == text_of(other), one == other)


class ReadingTest(Case):

    def test_read_back(self):
        for wish in WISHES:
            self.assertIs(wrong_line(text_of(wish), True), None)
            self.gives(wish, read_wish, text=text_of(wish))
            self.assertIs(type(read_wish(text_of(wish))), Wish)
            self.fails_named(InvalidLine, {"line": 1}, read_ranked, text=text_of(wish))
        for ranked in RANKEDS:
            self.assertIs(wrong_line(text_of(ranked), False), None)
            self.gives(ranked, read_ranked, text=text_of(ranked))
            self.fails_named(InvalidLine, {"line": 1}, read_wish, text=text_of(ranked))
        for wish in WISHES[::10]:
            if len(wish) < 8:
                self.assertEqual(read_ranked(text_of(ranked_of(wish))), ranked_of(wish))

    def check_text(self, text, is_wish):
        """What is read, or the wrong line, is that of the plain reading."""
        line = wrong_line(text, is_wish)
        if line is None:
            found = READ[is_wish](text)
            self.assertEqual(text_of(found), text)
        else:
            self.fails(InvalidLine, {"line": line}, lambda: READ[is_wish](text))
        return line

    def test_bent_texts(self):
        random = Random(1307)
        lines = {}
        for is_wish, entries in ((True, WISHES), (False, RANKEDS[:60] * 4)):
            texts = [text_of(entry) for entry in entries if len(entry.machine) < 9]
            for text in texts:
                for _ in range(9):
                    made = text
                    for _ in range(1 + random.randrange(3)):
                        made = bent(random, made, texts) if made else made
                    line = self.check_text(made, is_wish)
                    lines[is_wish, line] = lines.get((is_wish, line), 0) + 1
        for key in [(is_wish, line) for is_wish in (True, False) for line in (None, 1, 2, 3, 4, 5, 6, 7)] + [(True, 8), (True, 12)]:
            self.assertGreater(lines.get(key, 0), 9, key)

    def test_all_texts_with_a_sign_more_or_less(self):
        for is_wish, text in ((True, BOTH_TEXT), (False, RANKED_TEXT), (True, text_of(~BOTH))):
            for at in range(len(text) + 1):
                self.check_text(text[:at] + text[at + 1:], is_wish)
                self.check_text(text[:at], is_wish)
                self.check_text(text[at:], is_wish)
                for sign in " 0127\nabc-f~":
                    self.check_text(text[:at] + sign + text[at:], is_wish)
                    self.check_text(text[:at] + sign + text[at + 1:], is_wish)

    def wrong(self, is_wish, line, text):
        """The plain reading, too, finds this line wrong."""
        self.assertEqual(wrong_line(text, is_wish), line, text)
        self.fails_named(InvalidLine, {"line": line}, READ[is_wish], text=text)

    def test_wrong_lines_of_wishes(self):
        for line, text in [
                (1, ""), (1, "\n"), (1, "letters ab"), (2, "letters ab\n"), (1, "letters  ab\n"), (1, "letters ab \n"), (1, "letters\n"),
                (1, "letters ba\nfrom 0 to 0 0\n"), (1, "letters abcd\nfrom 0 to 0 0 0 0\n"), (1, " letters ab\nfrom 0 to 0 0\n"),
                (1, "letters aa\nfrom 0 to 0 0\n"), (1, "letters \nfrom 0 to \n"), (1, "letters a b\nfrom 0 to 0 0\n"),
                (1, "Letters ab\nfrom 0 to 0 0\n"), (1, "letters AB\nfrom 0 to 0 0\n"), (1, "from 0 to 0 0\n"),
                (2, "letters ab\n\n"), (2, "letters ab\nfrom 0 to 0 0"), (2, "letters ab\nfrom 0 to 0\n"), (2, "letters ab\ngood 0\n"),
                (2, "letters ab\nfrom 0 to 0 0 0\n"), (2, "letters ab\nfrom 1 to 0 0\n"), (2, "letters ab\nfrom 00 to 0 0\n"),
                (2, "letters ab\nfrom 0 to 0 6\n"), (2, "letters ab\nfrom 0 to 0 00\n"), (2, "letters ab\nfrom 0 to 0  0\n"),
                (2, "letters ab\nfrom 0 to 0 0 \n"), (2, "letters ab\nfrom 0 to 0 -1\n"), (2, "letters ab\nfrom 0 too 0 0\n"),
                (2, "letters ab\nfrom 0 to\n"), (2, "letters ab\nfrom 0\n"), (2, "letters ab\nfrom\n"), (2, "letters ab\nletters ab\n"),
                (3, "letters ab\nfrom 0 to 1 0\nfrom 2 to 0 0\n"), (3, "letters ab\nfrom 0 to 1 0\nfrom 0 to 0 0\n"),
                (3, "letters ab\nfrom 0 to 1 0\n\n"), (3, "letters ab\nfrom 0 to 1 0\nfrom 1 to 0 7\n"),
                (3, "letters ab\nfrom 0 to 0 0\ngood\n"), (3, "letters ab\nfrom 0 to 0 0\ngood \n"), (3, "letters ab\nfrom 0 to 0 0\ngood 00\n"),
                (3, "letters ab\nfrom 0 to 0 0\ngood 0"), (3, "letters ab\nfrom 0 to 0 0\ngood 0 0\n"), (3, "letters ab\nfrom 0 to 0 0\nGood 0\n"),
                (3, "letters ab\nfrom 0 to 0 0\ngood 1 0\n"), (4, "letters ab\nfrom 0 to 0 0\ngood 0\ngood 0\n"),
                (4, "letters ab\nfrom 0 to 0 0\ngood 1\ngood 0\n"), (4, "letters ab\nfrom 0 to 0 0\ngood 0 1\ngood 0\n"),
                (4, "letters ab\nfrom 0 to 0 0\ngood 0\nfrom 1 to 0 0\n"), (4, "letters ab\nfrom 0 to 0 0\ngood 0\n\n"),
                (3, "letters ab\nfrom 0 to 0 0\nbad 0\n"), (3, "letters ab\nfrom 0 to 0 0\ngood 0 \n"), (3, "letters ab\nfrom 0 to 0 0\ngood  0\n")]:
            self.wrong(True, line, text)

    def test_sequence_of_what_is_wrong_in_wishes(self):
        begin = "letters ab\nfrom 0 to 0 5\nfrom 1 to 1 2\nfrom 2 to 1 1\n"
        # A line that is wrong by itself is told ahead of a goal that is no place, and this ahead of lost places and rings.
        self.wrong(True, 5, begin + "good x\n")
        self.wrong(True, 5, begin + "good 0")
        self.wrong(True, 6, begin + "good 0\ngood 0\n")
        self.wrong(True, 2, begin + "good 0 7\n")
        self.wrong(True, 2, begin)
        lost = begin.replace("5", "0")
        self.wrong(True, 3, lost)
        self.wrong(True, 3, lost + "good 0 7\n")
        self.wrong(True, 4, lost.replace("from 0 to 0 0", "from 0 to 0 1").replace("from 1 to 1 2", "from 1 to 1 1"))
        self.wrong(True, 4, lost.replace("from 2 to 1 1", "from 2 to 1 3"))
        right = begin.replace("from 0 to 0 5", "from 0 to 0 1")
        self.wrong(True, 5, right + "good 0 1\ngood 1\n")
        self.wrong(True, 6, right + "good 0\ngood 0 1\ngood 2\n")
        self.wrong(True, 6, right + "good 0\ngood 2\ngood 3\n")
        self.wrong(True, 7, right + "good 0\ngood 1\ngood 1 7\n")
        self.assertEqual(read_wish(right + "good 0\ngood 1 2\n").good(), [(0,), (1, 2)])
        self.assertEqual(text_of(read_wish(right + "good 0\ngood 1\ngood 1 2\n")), right + "good 0\ngood 1\ngood 1 2\n")

    def test_many_digits(self):
        begin = "letters ab\nfrom 0 to 0 1\nfrom 1 to 1 0\n"
        long = "9" * 6000
        self.fails(InvalidLine, {"line": 4}, lambda: read_wish(begin + "good 0 " + long + "\n"))
        self.fails(InvalidLine, {"line": 5}, lambda: read_wish(begin + "good " + long + "\ngood 0\n"))
        self.fails(InvalidLine, {"line": 5}, lambda: read_wish(begin + "good 0\ngood 1 " + long + "\n"))
        self.fails(InvalidLine, {"line": 2}, lambda: read_wish("letters ab\nfrom 0 to 0 " + long + "\n"))
        self.fails(InvalidLine, {"line": 2}, lambda: read_wish("letters ab\nfrom " + long + " to 0 0\n"))
        self.fails(InvalidLine, {"line": 2}, lambda: read_ranked("ranked a\nfrom 0 to 0 " + long + "\n"))
        for text, line in [("good 0 10\ngood 0 9\n", 5), ("good 0 9\ngood 0 10\n", 4), ("good 9 10\n", 4), ("good 10 9\n", 4),
                           ("good 0\ngood 10\ngood 9\n", 6), ("good 0\ngood 9\ngood 10\n", 5)]:
            self.wrong(True, line, begin + text)

    def test_six_and_seven_places(self):
        def circle(places, last=0):
            return "letters a\n" + "".join(
                f"from {place} to {place + 1 if place < places - 1 else last}\n" for place in range(places))
        six = Wish(Machine("a", [[1], [2], [3], [4], [5], [0]]), [[0, 1, 2, 3, 4, 5]])
        self.assertEqual(read_wish(circle(6) + "good 0 1 2 3 4 5\n"), six)
        self.wrong(True, 7, circle(7))
        self.wrong(True, 8, circle(6).replace("to 0", "to 5") + "from 6 to 0\n")
        self.wrong(True, 8, circle(6) + "from 6 to 0\n")
        # The line of a seventh place is wrong by itself, so it is told ahead of a place that is not come to.
        self.wrong(True, 8, circle(6).replace("from 2 to 3", "from 2 to 0") + "from 6 to 0\n")
        self.wrong(True, 5, circle(6).replace("from 2 to 3", "from 2 to 0"))
        self.wrong(True, 8, circle(6) + "from 6 to 0\ngood x\n")
        self.wrong(True, 7, circle(6, 6))
        self.wrong(True, 6, circle(5, 5))

    def test_wrong_lines_of_ranked_machines(self):
        for line, text in [
                (1, ""), (1, "ranked ab"), (2, "ranked ab\n"), (1, "letters ab\nfrom 0 to 0 0 0 0\n"), (1, "ranked ba\n"),
                (2, "ranked a\nfrom 0 to 0\n"), (2, "ranked a\nfrom 0 to 0 13\n"), (2, "ranked a\nfrom 0 to 0 012\n"),
                (2, "ranked a\nfrom 0 to 120 0\n"), (2, "ranked a\nfrom 0 to 119 0\n"), (2, "ranked a\nfrom 0 to 1 0\n"),
                (2, "ranked a\nfrom 0 to 0 0 0\n"), (2, "ranked a\nfrom 0 to 0 0 0 0\n"), (2, "ranked a\nfrom 0 to 0 -1\n"),
                (2, "ranked a\nfrom 0 to 0 0"), (3, "ranked a\nfrom 0 to 0 0\ngood 0\n"), (3, "ranked a\nfrom 0 to 0 0\n\n"),
                (3, "ranked a\nfrom 0 to 0 0\nfrom 1 to 0 0\n"), (3, "ranked a\nfrom 0 to 1 0\nfrom 1 to 0 13\n"),
                (3, "ranked a\nfrom 0 to 5 0\nfrom 1 to 0 13\n"), (2, "ranked a\nfrom 0 to 5 0\nfrom 1 to 0 12\n"),
                (2, "ranked a\ngood 0\n"), (2, "ranked ab\nfrom 0 to 0 0 0 \n"), (2, "ranked a\nranked a\n"),
                (4, "ranked a\nfrom 0 to 1 0\nfrom 1 to 0 0\nfrom 2 to 2 2\n")]:
            self.wrong(False, line, text)
        self.assertEqual(read_ranked("ranked a\nfrom 0 to 0 12\n"), Ranked(Machine("a", [[0]]), [[12]]))

    def test_a_hundred_and_twenty_places(self):
        def circle(places, last=0):
            return "ranked a\n" + "".join(
                f"from {place} to {place + 1 if place < places - 1 else last} 3\n" for place in range(places))
        found = read_ranked(circle(120))
        self.assertEqual((len(found.machine), text_of(found)), (120, circle(120)))
        self.wrong(False, 121, circle(121))
        self.wrong(False, 122, circle(120) + "from 120 to 0 0\n")
        self.wrong(False, 122, circle(120).replace("from 2 to 3", "from 2 to 0") + "from 120 to 0 0\n")
        self.wrong(False, 121, circle(120, 120))
        self.wrong(False, 120, circle(119, 119))

    def test_no_string(self):
        for value in plain.odd_values() + [BOTH_TEXT.encode(), [BOTH_TEXT], BOTH, RANKED, RANKED_TEXT.encode()]:
            if type(value) is not str:
                self.fails_named(InvalidLine, {"line": 1}, read_wish, text=value)
                self.fails_named(InvalidLine, {"line": 1}, read_ranked, text=value)
            else:
                self.check_text(value, True)
                self.check_text(value, False)

    def test_calls_change_nothing(self):
        ahead = repr((WISHES[:9], RANKEDS[:9]))
        first = [bytes_of(entry) for entry in WISHES[:9] + RANKEDS[:9]]
        self.assertEqual([bytes_of(entry) for entry in (WISHES[:9] + RANKEDS[:9])[::-1]][::-1], first)
        read_wish(BOTH_TEXT).good().clear()
        self.assertEqual(read_wish(BOTH_TEXT), BOTH)
        self.assertEqual(repr((WISHES[:9], RANKEDS[:9])), ahead)
