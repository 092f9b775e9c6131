"""Texts of wishes and ranked machines, written and read line by line."""

from ringdepth.basics import are_letters
from ringdepth.errors import InvalidLine
from ringdepth.graphs import places_from
from ringdepth.machines import Machine
from ringdepth.ranked import Ranked
from ringdepth.rings import is_ring
from ringdepth.wishes import Wish

# The first words of the lines.
WISH_WORD = "letters"
RANKED_WORD = "ranked"
PLACE_WORD = "from"
RING_WORD = "good"

# The line of place 0; line 1 tells the letters.
FIRST_LINE = 2


def text_of(entry):
    """The text of a Wish or a Ranked."""
    rows = entry.machine.rows()
    if isinstance(entry, Ranked):
        both = [[number for pair in zip(row, line) for number in pair] for row, line in zip(rows, entry.ranks())]
        lines = [f"{RANKED_WORD} {entry.letters}"] + _place_lines(both)
    else:
        lines = [f"{WISH_WORD} {entry.letters}"] + _place_lines(rows)
        lines = lines + [f"{RING_WORD} {_told(ring)}" for ring in entry.good()]
    return "".join([line + "\n" for line in lines])


def bytes_of(entry):
    """The text of a Wish or a Ranked as bytes."""
    return text_of(entry).encode()


def read_wish(text):
    """The Wish with just this text."""
    lines = _lines_of(text)
    letters = _letters_of(lines, WISH_WORD)
    limit = Wish.MOST_PLACES
    rows = _read_places(lines, [_numerals(limit) for _ in letters], limit)
    lots = _read_lots(lines, FIRST_LINE + len(rows))
    _check_rows(rows)
    machine = Machine(letters, rows)
    for position, lot in enumerate(lots):
        if not is_ring(machine, lot):
            raise InvalidLine(FIRST_LINE + len(rows) + position)
    return Wish(machine, lots)


def read_ranked(text):
    """The Ranked with just this text."""
    lines = _lines_of(text)
    letters = _letters_of(lines, RANKED_WORD)
    limit = Machine.MOST_PLACES
    tables = [table for _ in letters for table in (_numerals(limit), _numerals(Ranked.MOST_RANK + 1))]
    found = _read_places(lines, tables, limit)
    if len(lines) > 1 + len(found):
        raise InvalidLine(FIRST_LINE + len(found))
    rows = [row[::2] for row in found]
    _check_rows(rows)
    return Ranked(Machine(letters, rows), [row[1::2] for row in found])


def _place_lines(rows):
    """The lines of places with these numbers behind them."""
    return [f"{PLACE_WORD} {place} to {_told(row)}" for place, row in enumerate(rows)]


def _told(numbers):
    """The numbers, parted by one blank."""
    return " ".join([str(number) for number in numbers])


def _lines_of(text):
    """The lines of a text; an empty line, which is always wrong, in the place of a last one without a line feed."""
    if not isinstance(text, str):
        raise InvalidLine(1)
    lines = text.split("\n")
    last = lines.pop()
    return lines if last == "" else lines + [""]


def _letters_of(lines, word):
    """The letters that the first line tells behind this word."""
    words = lines[0].split(" ") if lines else []
    if len(words) != 2 or words[0] != word or not are_letters(words[1]):
        raise InvalidLine(1)
    return words[1]


def _numerals(limit):
    """The dict from the numerals of the COUNTS below this limit to these."""
    return {str(number): number for number in range(limit)}


def _read_places(lines, tables, limit):
    """The lists of the numbers of all places, behind the first line; tables are the dicts of numerals by position."""
    found = []
    for line in lines[1:]:
        words = line.split(" ")
        if found and words[0] != PLACE_WORD:
            return found
        numbers = [table.get(word) for table, word in zip(tables, words[3:])]
        head = [PLACE_WORD, str(len(found)), "to"]
        if len(found) == limit or words[:3] != head or len(words) != 3 + len(tables) or None in numbers:
            raise InvalidLine(FIRST_LINE + len(found))
        found.append(numbers)
    if not found:
        raise InvalidLine(FIRST_LINE)
    return found


def _read_lots(lines, first):
    """The lots that the lines from this one on tell."""
    numerals = _numerals(Wish.MOST_PLACES)
    lots = []
    ahead = []
    for line in lines[first - 1:]:
        words = line.split(" ")
        # Numerals are compared by their length first, so they may have any number of digits. No counts at all are
        # never above those ahead.
        counts = [(len(word), word) for word in words[1:]]
        if words[0] != RING_WORD or not _are_rising(counts) or counts <= ahead:
            raise InvalidLine(first + len(lots))
        # What is told for greater numbers is no place either.
        lots.append(tuple([numerals.get(word, Wish.MOST_PLACES) for word in words[1:]]))
        ahead = counts
    return lots


def _are_rising(counts):
    """Whether tuples (length, numeral) tell rising COUNTS, perhaps none."""
    return all([_is_numeral(word) for _, word in counts]) and counts == sorted(set(counts))


def _is_numeral(word):
    """Whether a word is decimal digits without needless zeros."""
    return word.isascii() and word.isdigit() and (word == "0" or word[0] != "0")


def _check_rows(rows):
    """Raises InvalidLine with the line of the first place with a goal that is no place, or that is not come to."""
    for place, row in enumerate(rows):
        if max(row) >= len(rows):
            raise InvalidLine(FIRST_LINE + place)
    met = places_from(rows, 0)
    for place in range(len(rows)):
        if place not in met:
            raise InvalidLine(FIRST_LINE + place)
