"""Guards and hopes: what of a wish is that nothing bad comes, and what is that something good comes."""

from ringdepth.graphs import path
from ringdepth.settled import answers
from ringdepth.wishes import Wish, ring_kinds
from ringdepth.words import check_word


def guard(wish):
    """The Wish that is granted to the words none of whose begins is settled no."""
    words = answers(wish)
    # All places of a ring are settled alike, here and below.
    return Wish(wish.machine, [ring for ring in ring_kinds(wish) if words[ring[0]] != "no"])


def hope(wish):
    """The Wish that is granted to the words some begin of which is settled yes."""
    words = answers(wish)
    return Wish(wish.machine, [ring for ring in ring_kinds(wish) if words[ring[0]] == "yes"])


def lively(wish):
    """The Wish that is granted to the words that are granted this one, or some begin of which is settled no."""
    words = answers(wish)
    return Wish(wish.machine, [ring for ring in ring_kinds(wish) if wish[ring] or words[ring[0]] == "no"])


def is_guard(wish):
    """Whether the wish is its guard."""
    # Each ring is met by some word, so wishes of one machine are the same only if they are equal.
    return guard(wish) == wish


def is_hope(wish):
    """Whether the wish is its hope."""
    return hope(wish) == wish


def is_lively(wish):
    """Whether no text settles the wish no."""
    return "no" not in answers(wish)


def settles_at(wish, word):
    """The number of letters of the shortest begin behind which the wish is not open; None if it stays open."""
    check_word(word, wish.letters)
    rows = wish.machine.rows()
    words = answers(wish)
    # With a lap for each place the walk has come to all places that it ever comes to.
    places = path(rows, wish.letters, 0, word.begin + word.lap * len(rows))
    return min([at for at, place in enumerate(places) if words[place] != "open"], default=None)
