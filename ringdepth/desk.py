"""A desk: a wish that is changed step by step, each change being taken back where it is wanted."""

from ringdepth.chains import depth, least_ranks
from ringdepth.checks import check_same_letters
from ringdepth.commands import read_command
from ringdepth.edits import redirected
from ringdepth.errors import CommandFailed, InvalidCommand, InvalidKinds, NothingToUndo
from ringdepth.errors import LimitError, StateError, WishError
from ringdepth.settled import settled
from ringdepth.wishes import check_wish
from ringdepth.words import Word

# The answer to a command that changes the desk.
DONE = "done"


def _do_depth(desk):
    """The answer that tells the depth."""
    good, bad = depth(desk.wish)
    return f"{good} {bad}"


def _do_ranks(desk):
    """The answer that tells how many ranks are needed."""
    return str(least_ranks(desk.wish))


def _do_kind(desk, ring):
    """The answer that tells the kind of a ring."""
    return "good" if desk[ring] else "bad"


def _do_set(desk, ring, kind):
    """Sets the kind of a ring."""
    desk[ring] = kind
    return DONE


def _do_goal(desk, place, letter, goal):
    """Redirects a step."""
    desk.redirect(place, letter, goal)
    return DONE


def _do_granted(desk, begin, lap):
    """The answer that tells whether a word is granted the wish."""
    wish = desk.wish
    return "yes" if wish(Word(begin, lap)) else "no"


def _do_settled(desk, text):
    """The answer that tells what is settled behind a text."""
    return settled(desk.wish, text)


def _do_undo(desk):
    """Takes the last change back."""
    desk.undo()
    return DONE


# What does a command, by its first word.
ACTIONS = {"depth": _do_depth, "ranks": _do_ranks, "kind": _do_kind, "set": _do_set, "goal": _do_goal,
           "granted": _do_granted, "settled": _do_settled, "undo": _do_undo}


class Desk:
    """A wish as it stands, and the wishes that it was ahead of each change."""

    def __init__(self, wish):
        check_wish(wish)
        self._wish = wish
        # A tuple, so that a Trial may keep it while the desk goes on.
        self._ahead = ()

    @property
    def wish(self):
        """The wish as it stands."""
        return self._wish

    @wish.setter
    def wish(self, value):
        self.put(value)

    def __len__(self):
        return len(self._ahead)

    def __getitem__(self, at):
        return self._wish[at]

    def __setitem__(self, at, worth):
        self._set_kind(at, worth)

    def __iter__(self):
        raise TypeError("a desk is not iterated over")

    def __contains__(self, value):
        return value in self._wish

    def __iadd__(self, other):
        self._change(self._wish | other)
        return self

    def __isub__(self, other):
        self._set_kind(other, False)
        return self

    def put(self, wish):
        """Puts a wish with the same letters in the place of the wish."""
        check_wish(wish)
        check_same_letters(self._wish, wish)
        self._change(wish)

    def redirect(self, place, letter, goal):
        """Gives the step from this place by this letter another goal."""
        self._change(redirected(self._wish, place, letter, goal))

    def undo(self):
        """Takes the last change back."""
        if len(self._ahead) == 0:
            raise NothingToUndo()
        self._wish = self._ahead[-1]
        self._ahead = self._ahead[:-1]

    def do(self, command):
        """The answer to a command, which is done."""
        told = read_command(self._wish, command)
        if told is None:
            raise InvalidCommand(command)
        word, *about = told
        act = ACTIONS[word]
        return act(self, *about)

    def do_all(self, *commands):
        """The list of the answers to these commands; if one fails, none has an effect."""
        wish = self._wish
        ahead = self._ahead
        answers = []
        for position, command in enumerate(commands):
            try:
                answers.append(self.do(command))
            except (WishError, StateError, LimitError) as error:
                self._wish = wish
                self._ahead = ahead
                raise CommandFailed(position) from error
        return answers

    def _set_kind(self, ring, kind):
        """Makes a ring good or bad."""
        is_good = self._wish[ring]
        if not isinstance(kind, bool):
            raise InvalidKinds(kind)
        self._change(self._wish if kind == is_good else self._wish.turned([ring]))

    def _change(self, wish):
        """Goes on with this wish; the one as it stands is kept."""
        self._ahead = self._ahead + (self._wish,)
        self._wish = wish


class Trial:
    """What is done to a desk in a block under a Trial is taken back behind it."""

    def __init__(self, desk):
        self._desk = desk
        self._wish = None
        self._ahead = ()

    def __enter__(self):
        self._wish = self._desk._wish
        self._ahead = self._desk._ahead
        return self._desk

    def __exit__(self, kind, value, trace):
        desk = self._desk
        desk._wish = self._wish
        desk._ahead = self._ahead


def tried(desk, action):
    """What an action returns for the desk; what it does to the desk is taken back."""
    with Trial(desk) as held:
        return action(held)
