"""The errors of the package. Each one keeps what it was made with, under the names of its parameters."""


class WishError(ValueError):
    """A value that was passed is not valid."""


class InvalidText(WishError):
    """The value is no text, or none of the kind that is asked for."""

    def __init__(self, value):
        self.value = value


class InvalidLetters(WishError):
    """The value is not LETTERS."""

    def __init__(self, value):
        self.value = value


class InvalidLetter(WishError):
    """The value is none of the letters that may stand there."""

    def __init__(self, value):
        self.value = value


class InvalidNumber(WishError):
    """The value is no COUNT."""

    def __init__(self, value):
        self.value = value


class InvalidPlace(WishError):
    """The value is none of the places that may stand there."""

    def __init__(self, value):
        self.value = value


class InvalidWord(WishError):
    """The value is no Word over the letters."""

    def __init__(self, value):
        self.value = value


class InvalidMachine(WishError):
    """The value is no Machine."""

    def __init__(self, value):
        self.value = value


class InvalidRing(WishError):
    """The value is no ring of the machine."""

    def __init__(self, value):
        self.value = value


class InvalidWish(WishError):
    """The value is no Wish."""

    def __init__(self, value):
        self.value = value


class InvalidChain(WishError):
    """The value is no chain of the wish."""

    def __init__(self, value):
        self.value = value


class InvalidKinds(WishError):
    """The value does not tell kinds."""

    def __init__(self, value):
        self.value = value


class InvalidNest(WishError):
    """The value is no nest of such a wish."""

    def __init__(self, value):
        self.value = value


class InvalidPlan(WishError):
    """The value is no plan over the letters."""

    def __init__(self, value):
        self.value = value


class InvalidSort(WishError):
    """The value is no sort of wishes."""

    def __init__(self, value):
        self.value = value


class InvalidClaim(WishError):
    """The value is no claim."""

    def __init__(self, value):
        self.value = value


class InvalidCommand(WishError):
    """The value is no command of a desk."""

    def __init__(self, value):
        self.value = value


class InvalidRows(WishError):
    """The rows are no list, or the one at the position is wrong."""

    def __init__(self, position):
        self.position = position


class InvalidPlaces(WishError):
    """The places are no list, or the one at the position is wrong."""

    def __init__(self, position):
        self.position = position


class InvalidLots(WishError):
    """The lots are no list, or the one at the position is wrong."""

    def __init__(self, position):
        self.position = position


class InvalidRanks(WishError):
    """The ranks are no list, or the one at the position is wrong."""

    def __init__(self, position):
        self.position = position


class InvalidRings(WishError):
    """The rings are no list, or the one at the position is wrong."""

    def __init__(self, position):
        self.position = position


class InvalidSteps(WishError):
    """The steps are no list, or the one at the position is wrong."""

    def __init__(self, position):
        self.position = position


class InvalidLine(WishError):
    """The line of this number is wrong."""

    def __init__(self, line):
        self.line = line


class StateError(RuntimeError):
    """Each value is valid, but what is asked for is not to be had of them."""


class OtherLetters(StateError):
    """Both have other letters."""

    def __init__(self, one, other):
        self.one = one
        self.other = other


class OtherGoals(StateError):
    """Both places have other goals."""

    def __init__(self, one, other):
        self.one = one
        self.other = other


class NoWord(StateError):
    """Nothing that goes on for ever is left."""


class NotComeTo(StateError):
    """No text leads to the place."""

    def __init__(self, place):
        self.place = place


class NotWeak(StateError):
    """The wish is not weak: a good ring and a bad one lie in one part."""

    def __init__(self, one, other):
        self.one = one
        self.other = other


class NotOne(StateError):
    """A good ring and a bad one would become one."""

    def __init__(self, one, other):
        self.one = one
        self.other = other


class NothingToUndo(StateError):
    """No change is left that can be taken back."""


class CommandFailed(StateError):
    """The command at the position failed."""

    def __init__(self, position):
        self.position = position


class LimitError(ArithmeticError):
    """A limit of the package is passed."""


class TooMany(LimitError):
    """There is more of something than the limit."""

    def __init__(self, what, limit):
        self.what = what
        self.limit = limit
