"""A desk against a plain list of the wishes that it had, its commands word by word, and what is tried on it."""

import re
from random import Random

from ringdepth.desk import Desk, Trial, tried
from ringdepth.edits import redirected
from ringdepth.errors import (
    CommandFailed, InvalidCommand, InvalidKinds, InvalidLetter, InvalidPlace, InvalidRing, InvalidWish, LimitError,
    NotComeTo, NothingToUndo, OtherLetters, StateError, TooMany, WishError,
)
from ringdepth.machines import Machine
from ringdepth.wishes import Wish
from ringdepth.words import Word
from tests import plain, plain_depth
from tests.cases import LAST, Case, drawn_wishes, granted, random_rows

BOTH = Wish(LAST, [[0, 1]])
SEEN = Wish(Machine("ab", [[1, 0], [1, 1]]), [[1]])
OTHER = Wish(Machine("xy", [[0, 1], [0, 1]]), [[0]])
WIDE = Wish(Machine("ab", [[1, 2], [3, 4], [5, 0], [1, 1], [2, 2], [0, 0]]), [])
WISHES = [wish for wish in drawn_wishes(1501, 40, 2) if len(wish.letters) > 1]
OWN_ERRORS = (WishError, StateError, LimitError)


class Plain:
    """A desk as a list of the wishes that it had."""

    def __init__(self, wish):
        self.states = [wish]

    @property
    def wish(self):
        return self.states[-1]

    def put(self, wish):
        self.states.append(wish)

    def set(self, ring, kind):
        good = [other for other in self.wish.good() if other != ring] + ([ring] if kind else [])
        self.states.append(Wish(self.wish.machine, good))

    def undo(self):
        if len(self.states) == 1:
            raise NothingToUndo()
        del self.states[-1]

    def do(self, command):
        """The answer, by the document's words; the command is a right one."""
        wish = self.wish
        word, *words = command.split(" ")
        numbers = tuple(int(each) for each in words if each.isdigit())
        if word == "depth":
            return "{} {}".format(*plain_depth.longest(plain_depth.ring_kinds(wish)))
        if word == "ranks":
            return str(plain_depth.least_ranks(plain_depth.longest(plain_depth.ring_kinds(wish))))
        if word == "kind":
            return "good" if numbers in wish.good() else "bad"
        if word == "granted":
            return "yes" if granted(wish, words[0].strip("-"), words[1]) else "no"
        if word == "settled":
            at = plain.goes(wish.machine.rows(), wish.letters, 0, words[0].strip("-"))
            return plain_depth.answers(wish)[at]
        if word == "set":
            self.set(numbers, words[0] == "good")
        elif word == "goal":
            self.put(redirected(wish, numbers[0], words[1], numbers[1]))
        else:
            self.undo()
        return "done"


def is_command(wish, value):
    """Whether a value is a command for a wish, by the document's words."""
    if type(value) is not str:
        return False
    rows, letters = wish.machine.rows(), wish.letters
    place = "[0-" + str(len(rows) - 1) + "]"
    text = "(-|[" + letters + "]+)"
    if re.fullmatch("depth|ranks|undo|settled " + text + "|granted " + text + " [" + letters + "]+", value):
        return True
    if re.fullmatch("goal " + place + " [" + letters + "] " + place, value):
        return True
    found = re.fullmatch("(kind|set good|set bad)(( " + place + ")+)", value)
    return bool(found) and tuple(int(each) for each in found[2].split()) in plain.rings(rows)


def drawn_command(random, wish):
    """A random command for a wish; not each one can be done."""
    rings = plain.rings(wish.machine.rows())
    ring = " ".join(str(place) for place in random.choice(rings))
    places = [str(random.randrange(len(wish.machine))) for _ in range(2)]
    text, lap = ["".join(random.choice(wish.letters) for _ in range(random.randrange(5))) for _ in range(2)]
    return random.choice([
        "depth", "ranks", "kind " + ring, "set good " + ring, "set bad " + ring, "set bad " + ring, "undo",
        "goal " + places[0] + " " + random.choice(wish.letters) + " " + places[1], "settled " + (text or "-"),
        "granted " + (text or "-") + " " + (lap or wish.letters)])


def bent(random, command):
    """A command with one word or sign otherwise."""
    words = command.split(" ")
    at = random.randrange(len(words))
    way = random.randrange(7)
    if way == 0:
        del words[at]
    elif way == 1:
        words.insert(at, random.choice(words + ["0", "-", "", "a", "good"]))
    elif way == 2:
        words[at] = random.choice(["0", "1", "5", "6", "00", "01", "-", "a", "z", "", "good", "bad", "kind", "10", "ab", "+1"])
    elif way == 3:
        words[at], words[-1] = words[-1], words[at]
    else:
        place = random.randrange(len(command) + 1)
        put = random.choice(["", " ", "0", "a", "b", "-", "\n", "A"])
        return command[:place] + put + command[place + random.randrange(2):]
    return " ".join(words)


def same_letters(random, wish):
    """Another wish with the same letters."""
    rows = random_rows(random, 1 + random.randrange(3), wish.letters)
    return Wish(Machine(wish.letters, rows), [ring for ring in plain.rings(rows) if random.randrange(2)])


class StatesTest(Case):

    def check(self, desk, model):
        """The desk has the wish of the plain list, and as many changes can be taken back."""
        self.assertEqual(desk.wish, model.wish)
        self.assertIs(type(desk.wish), Wish)
        self.assertEqual(len(desk), len(model.states) - 1)
        for ring, kind in plain_depth.ring_kinds(model.wish).items():
            self.assertIs(desk[ring], kind)
            self.assertIs(ring in desk, kind)

    def change(self, random, desk, model, way):
        """Changes the desk and the plain list in one way; both may fail by an error of the package."""
        wish = model.wish
        rings = plain.rings(wish.machine.rows())
        ring, kind = random.choice(rings), bool(random.randrange(2))
        other = same_letters(random, wish)
        place, goal = [random.randrange(len(wish.machine)) for _ in range(2)]
        letter = random.choice(wish.letters)
        command = drawn_command(random, wish)
        if way == 0:
            desk.wish = other
            model.put(other)
        elif way == 1:
            self.assertIs(desk.put(other), None)
            model.put(other)
        elif way == 2:
            desk[ring] = kind
            model.set(ring, kind)
        elif way == 3:
            held = desk
            desk += other
            self.assertIs(held, desk)
            model.put(wish | other)
        elif way == 4:
            held = desk
            desk -= ring
            self.assertIs(held, desk)
            model.set(ring, False)
        elif way == 5:
            self.assertIs(desk.redirect(place, letter, goal), None)
            model.put(redirected(wish, place, letter, goal))
        elif way == 6:
            self.assertIs(desk.undo(), None)
            model.undo()
        else:
            answer = desk.do(command)
            self.assertIs(type(answer), str)
            self.assertEqual(answer, model.do(command), command)

    def test_drawn_changes(self):
        random = Random(1511)
        failed = {}
        for wish in WISHES[::4]:
            desk, model = Desk(wish), Plain(wish)
            for _ in range(30):
                way = random.randrange(9)
                try:
                    self.change(random, desk, model, way)
                except (NotComeTo, NothingToUndo, TooMany) as error:
                    failed[type(error)] = failed.get(type(error), 0) + 1
                self.check(desk, model)
            for state in model.states[-2::-1]:
                desk.undo()
                self.assertEqual(desk.wish, state)
            self.fails(NothingToUndo, {}, desk.undo)
            self.assertEqual((desk.wish, len(desk)), (wish, 0))
        self.assertEqual(len(failed), 3)

    def test_two_desks_by_turns(self):
        random = Random(1523)
        for wish in WISHES[::20]:
            desks, models = [Desk(wish), Desk(wish)], [Plain(wish), Plain(wish)]
            for _ in range(40):
                at = random.randrange(2)
                try:
                    self.change(random, desks[at], models[at], random.randrange(9))
                except (NotComeTo, NothingToUndo, TooMany):
                    pass
                for desk, model in zip(desks, models):
                    self.check(desk, model)

    def test_changes_that_change_nothing_count(self):
        desk = Desk(BOTH)
        desk[(0, 1)] = True
        desk -= (0,)
        desk.wish = BOTH
        desk.put(BOTH)
        desk += BOTH
        desk.redirect(0, "a", 0)
        self.assertEqual(desk.do("set good 0 1"), "done")
        self.assertEqual(desk.do("goal 1 b 1"), "done")
        self.assertEqual((len(desk), desk.wish), (8, BOTH))
        self.assertEqual(desk.do_all(*["undo"] * 8), ["done"] * 8)
        self.assertEqual((len(desk), desk.wish), (0, BOTH))

    def test_many_changes(self):
        desk = Desk(BOTH)
        for number in range(250):
            desk[(0,)] = number % 3 == 0
        self.assertEqual(len(desk), 250)
        for number in range(249, -1, -1):
            self.assertIs(desk[(0,)], number % 3 == 0)
            desk.undo()
        self.assertEqual((len(desk), desk.wish), (0, BOTH))

    def test_the_wish_itself_never_changes(self):
        wish = Wish(LAST, [[0, 1]])
        desk = Desk(wish)
        first = desk.wish
        desk -= (0, 1)
        desk.redirect(1, "a", 1)
        self.assertEqual((wish, first), (BOTH, BOTH))
        desk.wish.good().append((0,))
        self.assertNotIn((0,), desk)
        self.assertEqual(desk.wish, Wish(Machine("ab", [[0, 1], [1, 1]]), []))


class ErrorsTest(Case):

    def unchanged(self, error, kept, call, wish=BOTH):
        """The call fails so for a desk with one change, and changes nothing."""
        desk = Desk(~wish)
        desk.put(wish)
        self.fails(error, kept, lambda: call(desk))
        self.assertEqual((desk.wish, len(desk)), (wish, 1))
        desk.undo()
        self.assertEqual((desk.wish, len(desk)), (~wish, 0))

    def test_no_wish(self):
        def set_wish(desk, value):
            desk.wish = value

        def add(desk, value):
            desk += value
        for value in plain.odd_values() + [LAST, Word("", "a"), Desk(BOTH), [BOTH]]:
            self.fails_named(InvalidWish, {"value": value}, Desk, wish=value)
            self.unchanged(InvalidWish, {"value": value}, lambda desk: desk.put(value))
            self.unchanged(InvalidWish, {"value": value}, lambda desk: desk.put(wish=value))
            self.unchanged(InvalidWish, {"value": value}, lambda desk: set_wish(desk, value))
            self.unchanged(InvalidWish, {"value": value}, lambda desk: add(desk, value))
        for other in (OTHER, Wish(Machine("a", [[0]]), []), Wish(Machine("abc", [[0, 0, 0]]), [])):
            kept = {"one": "ab", "other": other.letters}
            self.unchanged(OtherLetters, kept, lambda desk: desk.put(other))
            self.unchanged(OtherLetters, kept, lambda desk: set_wish(desk, other))
            self.unchanged(OtherLetters, kept, lambda desk: add(desk, other))
        self.unchanged(TooMany, {"what": "places", "limit": 6}, lambda desk: add(desk, WIDE))

    def test_rings_and_kinds(self):
        def put(desk, ring, kind):
            desk[ring] = kind

        def take(desk, ring):
            desk -= ring
        for value in plain.odd_values() + [(0, 2), [0, 1], (1, 0), BOTH]:
            if type(value) is not tuple or value not in [(0,), (1,), (0, 1)] or any(type(place) is not int for place in value):
                self.unchanged(InvalidRing, {"value": value}, lambda desk: desk[value])
                self.unchanged(InvalidRing, {"value": value}, lambda desk: take(desk, value))
                for kind in (True, 0, None):
                    self.unchanged(InvalidRing, {"value": value}, lambda desk: put(desk, value, kind))
                self.assertIs(value in Desk(BOTH), False)
            if type(value) is not bool:
                self.unchanged(InvalidKinds, {"value": value}, lambda desk: put(desk, (0,), value))

    def test_redirect(self):
        for value in plain.odd_values():
            if type(value) is not int or value not in (0, 1):
                self.unchanged(InvalidPlace, {"value": value}, lambda desk: desk.redirect(value, "z", None), SEEN)
                self.unchanged(InvalidPlace, {"value": value}, lambda desk: desk.redirect(goal=value, letter="a", place=0), SEEN)
            if type(value) is not str or value not in ("a", "b"):
                self.unchanged(InvalidLetter, {"value": value}, lambda desk: desk.redirect(0, value, None), SEEN)
        self.unchanged(NotComeTo, {"place": 1}, lambda desk: desk.redirect(0, "a", 0), SEEN)

    def test_nothing_to_undo(self):
        desk = Desk(BOTH)
        self.fails(NothingToUndo, {}, desk.undo)
        self.fails(NothingToUndo, {}, lambda: desk.do("undo"))
        self.assertEqual((desk.wish, len(desk)), (BOTH, 0))

    def test_not_iterated_over(self):
        self.assertRaises(TypeError, iter, Desk(BOTH))
        self.assertRaises(TypeError, list, Desk(BOTH))


class CommandsTest(Case):

    def test_told_commands(self):
        desk = Desk(BOTH)
        for command, answer in [
                ("depth", "1 2"), ("ranks", "2"), ("kind 0 1", "good"), ("kind 1", "bad"), ("set bad 0 1", "done"), ("depth", "0 1"),
                ("granted - ba", "no"), ("undo", "done"), ("granted - ba", "yes"), ("granted abab b", "no"), ("settled -", "open"),
                ("set good 0", "done"), ("set good 1", "done"), ("settled -", "yes"), ("settled abba", "yes"), ("ranks", "1"),
                ("goal 0 b 0", None), ("goal 1 a 1", "done"), ("depth", "1 0"), ("kind 0", "good"), ("kind 1", "good")]:
            if answer is None:
                self.fails(NotComeTo, {"place": 1}, lambda: desk.do(command))
            else:
                self.gives(answer, desk.do, command=command) if command.split()[0] not in ("set", "undo", "goal") else (
                    self.assertEqual(desk.do(command), answer))
        self.assertEqual(len(desk), 3)

    def test_right_and_wrong_ones(self):
        random = Random(1531)
        counts = [0, 0]
        for wish in WISHES[::3]:
            desk = Desk(wish)
            for _ in range(40):
                command = drawn_command(random, wish)
                if random.randrange(3):
                    command = bent(random, command)
                right = is_command(wish, command)
                counts[right] += 1
                if right:
                    try:
                        self.assertEqual(desk.do(command=command), Plain(wish).do(command))
                    except (NotComeTo, NothingToUndo):
                        pass
                    desk = Desk(wish)
                else:
                    self.fails_named(InvalidCommand, {"value": command}, desk.do, command=command)
                    self.assertEqual((desk.wish, len(desk)), (wish, 0))
        self.assertGreater(min(counts), 300)

    def test_wrong_strings(self):
        desk = Desk(BOTH)
        for command in [
                "", " ", "-", "Depth", "depth ", " depth", "depth 0", "ranks 1", "undo 1", "undo -", "kind", "kind ", "kind 0 0", "kind 1 0",
                "kind 2", "kind 00", "kind 0  1", "kind 0 1 ", "kind 0,1", "kind -", "set", "set good", "set good ", "set 0", "set 0 good",
                "set Good 0", "set good 2", "set bad 1 0", "set true 0", "goal", "goal 0 a", "goal 0 a 2", "goal 2 a 0", "goal 0 c 0",
                "goal 0 ab 0", "goal a 0 0", "goal 0 a 0 0", "goal 0 a 00", "goal 0 - 0", "granted", "granted -", "granted a", "granted a -",
                "granted - -", "granted  a", "granted a ", "granted c a", "granted a c", "granted a b a", "granted - a-", "granted -a a",
                "granted -- a", "settled", "settled ", "settled c", "settled --", "settled a b", "settled a-", "settled - ", "settled A",
                "depth\n", "settled a\n", "kind 0\n", "do depth", "good", "set good 0\n1", "settled 0", "kind +0", "kind 0 1 2", "depthranks"]:
            self.assertIs(is_command(BOTH, command), False, command)
            self.fails_named(InvalidCommand, {"value": command}, desk.do, command=command)
        self.assertEqual((desk.wish, len(desk)), (BOTH, 0))

    def test_any_value(self):
        desk = Desk(BOTH)
        for value in plain.odd_values() + [b"depth", ["depth"], ("depth",), BOTH, desk]:
            self.fails_named(InvalidCommand, {"value": value}, desk.do, command=value)

    def test_the_wish_as_it_stands(self):
        desk = Desk(SEEN)
        self.fails(InvalidCommand, {"value": "kind 0 1"}, lambda: desk.do("kind 0 1"))
        self.assertEqual(desk.do_all("goal 1 a 0", "kind 0 1", "kind 1"), ["done", "bad", "good"])
        desk.put(Wish(Machine("ab", [[0, 0]]), []))
        self.fails(InvalidCommand, {"value": "kind 1"}, lambda: desk.do("kind 1"))
        desk.undo()
        self.assertEqual(desk.do("kind 1"), "good")

    def test_long_words(self):
        desk = Desk(BOTH)
        self.assertEqual(desk.do("granted " + "ab" * 4000 + " ba"), "yes")
        self.assertEqual(desk.do("granted - " + "a" * 8000), "no")
        for command in ("granted " + "a" * 8001 + " b", "granted - " + "b" * 8001):
            self.fails(TooMany, {"what": "letters", "limit": 8000}, lambda: desk.do(command))
        self.assertEqual(desk.do("settled " + "a" * 8500), "open")

    def test_do_all(self):
        random = Random(1541)
        failed = {}
        for wish in WISHES:
            desk, model = Desk(wish), Plain(wish)
            for _ in range(6):
                commands = []
                while len(commands) < random.randrange(6):
                    commands.append(drawn_command(random, model.wish if random.randrange(4) else random.choice(WISHES)))
                ahead = list(model.states)
                answers, position, cause = [], None, None
                for at, command in enumerate(commands):
                    try:
                        if not is_command(model.wish, command):
                            raise InvalidCommand(command)
                        answers.append(model.do(command))
                    except OWN_ERRORS as error:
                        position, cause = at, error
                        break
                if cause is None:
                    found = desk.do_all(*commands)
                    self.assertIs(type(found), list)
                    self.assertEqual(found, answers)
                else:
                    model.states = ahead
                    failed[type(cause)] = failed.get(type(cause), 0) + 1
                    with self.assertRaises(CommandFailed) as caught:
                        desk.do_all(*commands)
                    self.assertEqual(vars(caught.exception), {"position": position})
                    self.assertIs(type(caught.exception.__cause__), type(cause))
                    self.assertEqual(vars(caught.exception.__cause__), vars(cause))
                self.assertEqual((desk.wish, len(desk)), (model.wish, len(model.states) - 1))
        self.assertGreater(min(failed.get(kind, 0) for kind in (InvalidCommand, NotComeTo, NothingToUndo)), 5)

    def test_do_all_or_nothing(self):
        desk = Desk(BOTH)
        desk -= (0, 1)
        self.assertEqual(desk.do_all(), [])
        for commands, position, cause in [
                (("undo", "undo"), 1, NothingToUndo), (("set good 0", "kind 0 1 2"), 1, InvalidCommand), ((None,), 0, InvalidCommand),
                (("undo", "set good 1", "goal 0 b 0", "depth"), 2, NotComeTo), (("set good 0",) * 5 + (7,), 5, InvalidCommand),
                (("depth", "set bad 1", "granted - " + "a" * 8001), 2, TooMany)]:
            with self.assertRaises(CommandFailed) as caught:
                desk.do_all(*commands)
            self.assertEqual((caught.exception.position, type(caught.exception.__cause__)), (position, cause))
            self.assertIs(type(caught.exception), CommandFailed)
            self.assertEqual((desk.wish, len(desk)), (Wish(LAST, []), 1))
        desk.undo()
        self.assertEqual(desk.wish, BOTH)

    def test_an_undo_of_what_was_ahead(self):
        desk = Desk(BOTH)
        desk -= (0, 1)
        self.assertEqual(desk.do_all("undo", "set good 0", "set good 1"), ["done"] * 3)
        self.assertEqual(len(desk), 2)
        self.assertEqual(desk.do_all("undo", "undo", "depth"), ["done", "done", "1 2"])
        self.assertEqual((desk.wish, len(desk)), (BOTH, 0))


class TrialTest(Case):

    def test_what_was_done_is_taken_back(self):
        desk = Desk(BOTH)
        desk[(0,)] = True
        ahead = desk.wish
        with Trial(desk) as held:
            self.assertIs(held, desk)
            self.assertEqual((held.wish, len(held)), (ahead, 1))
            desk.undo()
            self.assertEqual((desk.wish, len(desk)), (BOTH, 0))
            desk -= (0, 1)
            desk.wish = SEEN
            self.assertEqual(desk.do("kind 1"), "good")
        self.assertEqual((desk.wish, len(desk)), (ahead, 1))
        desk.undo()
        self.assertEqual((desk.wish, len(desk)), (BOTH, 0))

    def test_an_error_goes_on(self):
        desk = Desk(BOTH)
        desk -= (0, 1)
        error = KeyError("x")
        with self.assertRaises(KeyError) as caught:
            with Trial(desk):
                desk.undo()
                desk.put(SEEN)
                raise error
        self.assertIs(caught.exception, error)
        self.assertEqual((desk.wish, len(desk)), (Wish(LAST, []), 1))
        with self.assertRaises(InvalidRing):
            with Trial(desk) as held:
                held.undo()
                held -= (5,)
        self.assertEqual((desk.wish, len(desk)), (Wish(LAST, []), 1))
        with self.assertRaises(NothingToUndo):
            with Trial(desk) as held:
                held.undo()
                held.undo()
        desk.undo()
        self.assertEqual((desk.wish, len(desk)), (BOTH, 0))

    def test_a_block_that_is_left_early(self):
        desk = Desk(BOTH)
        for number in range(3):
            with Trial(desk):
                desk.put(SEEN)
                if number == 1:
                    break
        self.assertEqual((number, desk.wish, len(desk)), (1, BOTH, 0))

    def test_one_put_into_another(self):
        random = Random(1553)
        for wish in WISHES[::6]:
            desk = Desk(wish)
            desk.put(~wish)

            def go_down(levels):
                ahead = desk.wish, len(desk)
                with Trial(desk):
                    for _ in range(3):
                        try:
                            desk.do(drawn_command(random, desk.wish))
                        except (NotComeTo, NothingToUndo):
                            pass
                        if levels:
                            go_down(levels - 1)
                self.assertEqual((desk.wish, len(desk)), ahead)

            go_down(2)
            desk.undo()
            self.assertEqual((desk.wish, len(desk)), (wish, 0))

    def test_one_trial_again(self):
        desk = Desk(BOTH)
        trial = Trial(desk)
        for number in range(3):
            with trial as held:
                held -= (1,)
                held.put(BOTH)
            self.assertEqual((desk.wish, len(desk)), (BOTH if number == 0 else SEEN, number))
            desk.put(SEEN)
            self.assertEqual(len(desk), number + 1)

    def test_two_desks(self):
        one, other = Desk(BOTH), Desk(SEEN)
        with Trial(one):
            one.put(SEEN)
            other.put(BOTH)
            with Trial(other):
                one.put(BOTH)
                other.undo()
            self.assertEqual((one.wish, len(one), other.wish, len(other)), (BOTH, 2, BOTH, 1))
        self.assertEqual((one.wish, len(one), other.wish, len(other)), (BOTH, 0, BOTH, 1))

    def test_a_trial_that_is_made_ahead(self):
        desk = Desk(BOTH)
        trial = Trial(desk=desk)
        desk.put(SEEN)
        with trial:
            desk.put(BOTH)
        # It is ahead of the block that counts, not where the Trial was made.
        self.assertEqual((desk.wish, len(desk)), (SEEN, 1))

    def test_tried(self):
        desk = Desk(BOTH)
        desk -= (0,)
        made = object()
        for action, found in [(lambda held: held.do("undo"), "done"), (lambda held: held.do_all("set bad 0 1", "depth"), ["done", "0 1"]),
                              (lambda held: held, desk), (lambda held: made, made), (lambda held: held.put(SEEN), None),
                              (lambda held: tried(held, lambda again: again.undo()), None), (len, 1),
                              (lambda held: (held.put(SEEN), held.wish)[1], SEEN)]:
            self.assertIs(type(tried(desk, action)), type(found))
            self.assertEqual(tried(desk, action), found)
            self.assertEqual(tried(action=action, desk=desk), found)
            self.assertEqual((desk.wish, len(desk)), (BOTH, 1))

        def wrong(held):
            held.undo()
            held.put(SEEN)
            raise ZeroDivisionError("told")

        self.assertRaises(ZeroDivisionError, tried, desk, wrong)
        self.assertEqual((desk.wish, len(desk)), (BOTH, 1))
        self.fails(CommandFailed, {"position": 1}, lambda: tried(desk, lambda held: held.do_all("undo", "undo")))
        self.assertEqual((desk.wish, len(desk)), (BOTH, 1))
        self.fails(NothingToUndo, {}, lambda: tried(Desk(SEEN), lambda held: held.undo()))
