"""Plans: wishes told by what is asked of the letters of a word."""

from ringdepth.basics import are_letters
from ringdepth.checks import is_text_over
from ringdepth.errors import InvalidLetters, InvalidPlan
from ringdepth.machines import Machine
from ringdepth.wishes import Wish
from ringdepth.words import check_word

# The lots that are good, by the word of a plan, if its machine has two places.
GOOD_LOTS = {"always": ((0,),), "once": ((1,),), "again": ((1,), (0, 1)), "at last": ((1,),)}


def is_plan(letters, value):
    """Whether any value is a plan over these letters."""
    _check_letters(letters)
    return _is_told(letters, value)


def wish_of(letters, plan):
    """The Wish that a plan over these letters tells."""
    _check_plan(letters, plan)
    return _wish_told(letters, plan)


def fits_plan(letters, plan, word):
    """Whether the word is as the plan tells, judged by its letters alone."""
    _check_plan(letters, plan)
    check_word(word, letters)
    return _fits(plan, word.coming(), word.again())


def _check_letters(value):
    """Raises InvalidLetters unless the value is LETTERS."""
    if not are_letters(value):
        raise InvalidLetters(value)


def _check_plan(letters, value):
    """Raises InvalidLetters unless letters are LETTERS, and InvalidPlan unless the value is a plan over them."""
    _check_letters(letters)
    if not _is_told(letters, value):
        raise InvalidPlan(value)


def _is_told(letters, value):
    """Whether any value is a plan over these letters, which are right."""
    if not isinstance(value, tuple) or len(value) < 2 or not isinstance(value[0], str):
        return False
    if value[0] in GOOD_LOTS:
        return len(value) == 2 and _are_some(letters, value[1])
    if value[0] == "not":
        return len(value) == 2 and _is_told(letters, value[1])
    return value[0] in ("and", "or") and len(value) == 3 and all([_is_told(letters, plan) for plan in value[1:]])


def _are_some(letters, value):
    """Whether any value is a rising text over these letters, perhaps empty."""
    return is_text_over(value, letters) and list(value) == sorted(set(value))


def _wish_told(letters, plan):
    """The Wish that a plan tells, which is right."""
    if plan[0] == "not":
        return ~_wish_told(letters, plan[1])
    if plan[0] == "and":
        return _wish_told(letters, plan[1]) & _wish_told(letters, plan[2])
    if plan[0] == "or":
        return _wish_told(letters, plan[1]) | _wish_told(letters, plan[2])
    word, some = plan
    machine = Machine.come_to(letters, _two_rows(letters, word, some))
    # Place 1 is not come to if no letter leads there.
    return Wish(machine, [lot for lot in GOOD_LOTS[word] if lot[-1] in machine])


def _two_rows(letters, word, some):
    """The rows of places 0 and 1 for such a word and its letters, whether place 1 is come to or not."""
    if word == "always":
        return [[0 if letter in some else 1 for letter in letters], [1 for _ in letters]]
    row = [1 if letter in some else 0 for letter in letters]
    if word == "once":
        return [row, [1 for _ in letters]]
    return [row, row]


def _fits(plan, coming, again):
    """Whether a word in which these letters come, and these again and again, is as the plan tells, which is right."""
    if plan[0] == "not":
        return not _fits(plan[1], coming, again)
    if plan[0] == "and":
        return _fits(plan[1], coming, again) and _fits(plan[2], coming, again)
    if plan[0] == "or":
        return _fits(plan[1], coming, again) or _fits(plan[2], coming, again)
    word, some = plan
    asked = coming if word in ("always", "once") else again
    if word in ("always", "at last"):
        return is_text_over(asked, some)
    return any([letter in some for letter in asked])
