"""Claims about wishes, and the papers that show them."""

from ringdepth.basics import is_count
from ringdepth.chains import chain, is_chain, least_ranks
from ringdepth.checks import is_letter_of, is_list
from ringdepth.errors import InvalidClaim
from ringdepth.judging import MOST_WAYS, do_spoil, is_ranked_of, own_ranks, ranked_of, spoilers
from ringdepth.mended import BARRED, are_bars, bars, how_many_turned, is_mended, mended
from ringdepth.nests import how_many_ways
from ringdepth.ranked import own_depth
from ringdepth.rings import first_wrong_ring, is_ring
from ringdepth.same import beyond, joint
from ringdepth.silent import are_loud, is_silent, loud
from ringdepth.wishes import Wish
from ringdepth.words import is_word_over

# What a claim tells behind its word and a wish.
FORMS = {
    "chain": ("kind", "from one on"),
    "no chain": ("kind", "from one on"),
    "ranked": ("number",),
    "not ranked": ("number",),
    "own": (),
    "not own": (),
    "within": ("wish",),
    "not within": ("wish",),
    "mended": ("sort", "number"),
    "not mended": ("sort", "number"),
    "loud": ("letter",),
}

# The papers of these claims have a place for each way down, so there must be few of these.
BY_WAYS = ("no chain", "ranked")

CONTRARIES = {"no chain": "chain", "not ranked": "ranked", "not own": "own", "not within": "within",
              "not mended": "mended"}


def _shows_chain(value, wish, is_good, number):
    """Whether any value is a chain of this kind of at least so many rings."""
    return is_chain(wish, value) and wish[value[0]] == is_good and len(value) >= number


def _shows_no_chain(value, wish, is_good, number):
    """Whether any value is a Ranked of the same words whose own depth tells less than the number for this kind."""
    return is_ranked_of(wish, value) and own_depth(value)[0 if is_good else 1] < number


def _shows_ranked(value, wish, number):
    """Whether any value is a Ranked of the same words with at most so many ranks."""
    return is_ranked_of(wish, value) and len(value.used()) <= number


def _shows_not_ranked(value, wish, number):
    """Whether any value is a list of a chain of more rings than so many, or of two of just so many, of both kinds."""
    if not is_list(value) or not all([is_chain(wish, rings) for rings in value]):
        return False
    if len(value) == 1:
        return len(value[0]) > number
    if len(value) != 2 or not all([len(rings) == number for rings in value]):
        return False
    one, other = value
    return wish[one[0]] != wish[other[0]]


def _shows_own(value, wish):
    """Whether any value is a Ranked of the same words with the wish's machine."""
    return is_ranked_of(wish, value) and value.machine == wish.machine


def _shows_not_own(value, wish):
    """Whether any value is a tuple of two rings that spoil own ranks."""
    return do_spoil(wish, value)


def _shows_within(value, one, other):
    """Whether any value is the sorted list of all joint rings."""
    if not is_list(value) or not all([_are_two_rings(one, other, pair) for pair in value]):
        return False
    return list(value) == joint(one, other)


def _shows_not_within(value, one, other):
    """Whether any value is a Word that is granted the first wish alone."""
    return is_word_over(value, one.letters) and one(value) and not other(value)


def _shows_mended(value, wish, sort, number):
    """Whether any value is a list of at most so many different rings that mend the wish when they are turned."""
    if not is_list(value) or first_wrong_ring(wish.machine, value) is not None:
        return False
    return len(value) <= number and is_mended(wish, sort, value)


def _shows_not_mended(value, wish, sort, number):
    """Whether any value is a list of more bars apart than so many."""
    return are_bars(wish, sort, value) and len(value) > number


def _shows_loud(value, wish, letter):
    """Whether any value is a tuple of two Words that are the same without the letter, the first one granted alone."""
    return are_loud(wish, letter, value)


# How a value that may be the paper of each claim is judged, if the claim is true.
JUDGES = {"chain": _shows_chain, "no chain": _shows_no_chain, "ranked": _shows_ranked,
          "not ranked": _shows_not_ranked, "own": _shows_own, "not own": _shows_not_own, "within": _shows_within,
          "not within": _shows_not_within, "mended": _shows_mended, "not mended": _shows_not_mended,
          "loud": _shows_loud}


def is_claim(value):
    """Whether any value is a claim."""
    if not isinstance(value, tuple) or len(value) < 2 or not isinstance(value[0], str) or value[0] not in FORMS:
        return False
    word, wish = value[:2]
    forms = FORMS[word]
    if not isinstance(wish, Wish) or len(value) != 2 + len(forms):
        return False
    if not all([_is_of_form(wish, form, each) for form, each in zip(forms, value[2:])]):
        return False
    return word not in BY_WAYS or how_many_ways(wish) <= MOST_WAYS


def is_true(claim):
    """Whether a claim is true."""
    if not is_claim(claim):
        raise InvalidClaim(claim)
    word, wish = claim[:2]
    if word in CONTRARIES:
        return not _is_so(CONTRARIES[word], wish, claim[2:])
    return _is_so(word, wish, claim[2:])


def paper_of(claim):
    """A paper of a claim; None if it is not true."""
    if not is_true(claim):
        return None
    word, wish = claim[:2]
    if word == "own":
        return own_ranks(wish)
    if word == "not own":
        return spoilers(wish)
    if word in BY_WAYS:
        # Its own depth is that of the wish, as that of each Ranked of the same words, and its ranks are the fewest.
        return ranked_of(wish)
    if word == "chain":
        return chain(wish, claim[2])
    if word == "not ranked":
        return _chains_above(wish, claim[2])
    if word == "within":
        return joint(wish, claim[2])
    if word == "not within":
        return beyond(wish, claim[2])
    if word == "mended":
        return mended(wish, claim[2])
    if word == "not mended":
        return bars(wish, claim[2])
    return loud(wish, claim[2])


def is_paper(claim, value):
    """Whether any value is a paper of a claim."""
    if not is_true(claim):
        return False
    about = claim[1:]
    judge = JUDGES[claim[0]]
    return judge(value, *about)


def _is_so(word, wish, about):
    """Whether a claim of this word, which is no contrary, about a wish and what is told behind it is true."""
    if word == "own":
        return spoilers(wish) is None
    if word == "loud":
        return not is_silent(wish, about[0])
    if word == "within":
        return wish.is_within(about[0])
    if word == "ranked":
        return least_ranks(wish) <= about[0]
    asked, number = about
    if word == "chain":
        return len(chain(wish, asked)) >= number
    return how_many_turned(wish, asked) <= number


def _chains_above(wish, number):
    """A list of a longest chain, if it has more rings than so many; otherwise of longest chains of both kinds."""
    both = [chain(wish, True), chain(wish, False)]
    longest = max(both, key=len)
    return [longest] if len(longest) > number else both


def _is_of_form(wish, form, value):
    """Whether any value is what this form asks for beside the wish."""
    if form == "kind":
        return isinstance(value, bool)
    if form == "wish":
        return isinstance(value, Wish) and value.letters == wish.letters
    if form == "sort":
        return isinstance(value, str) and value in BARRED
    if form == "letter":
        return is_letter_of(value, wish.letters)
    return is_count(value) and (form == "number" or value > 0)


def _are_two_rings(one, other, value):
    """Whether any value is a tuple of a ring of one wish and a ring of the other one."""
    if not isinstance(value, tuple) or len(value) != 2:
        return False
    return is_ring(one.machine, value[0]) and is_ring(other.machine, value[1])
