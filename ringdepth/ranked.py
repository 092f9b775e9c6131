"""Ranked machines: a word is granted what they tell if the greatest rank that comes again and again is even."""

from ringdepth.basics import is_count
from ringdepth.checks import check_letter, check_place, is_list
from ringdepth.errors import InvalidMachine, InvalidRanks, TooMany
from ringdepth.graphs import greatest_rings, walks_again
from ringdepth.machines import Machine
from ringdepth.rings import parts
from ringdepth.words import check_word


class Ranked:
    """A machine, and a rank for each of its steps."""

    MOST_RANK = 12

    def __init__(self, machine, ranks):
        if not isinstance(machine, Machine):
            raise InvalidMachine(machine)
        _check_ranks(machine, ranks)
        self._machine = machine
        self._ranks = [list(line) for line in ranks]

    @property
    def machine(self):
        """Its machine."""
        return self._machine

    @property
    def letters(self):
        """The letters of its machine."""
        return self._machine.letters

    def __call__(self, word):
        return is_even(self.greatest(word))

    def __eq__(self, other):
        return isinstance(other, Ranked) and self._machine == other._machine and self._ranks == other._ranks

    def __repr__(self):
        return f"Ranked({self._machine!r}, {self._ranks!r})"

    def __invert__(self):
        if max([max(line) for line in self._ranks]) == Ranked.MOST_RANK:
            raise TooMany("ranks", Ranked.MOST_RANK)
        return Ranked(self._machine, [[rank + 1 for rank in line] for line in self._ranks])

    def ranks(self):
        """The list of the lists of ranks."""
        return [list(line) for line in self._ranks]

    def rank(self, place, letter):
        """The rank of the step from this place by this letter."""
        check_place(place, len(self._machine))
        check_letter(letter, self.letters)
        return self._ranks[place][self.letters.index(letter)]

    def greatest(self, word):
        """The greatest rank of the steps that the word makes again and again."""
        check_word(word, self.letters)
        walks = walks_again(self._machine.rows(), self.letters, self._machine.goes(0, word.begin), word.lap)
        columns = [self.letters.index(letter) for letter in word.lap]
        return max([self._ranks[place][column] for walk in walks for place, column in zip(walk, columns)])

    def used(self):
        """The sorted list of its RANKS: those of steps within a part."""
        rows = self._machine.rows()
        return sorted({rank for part in parts(self._machine) for rank in _ranks_within(rows, self._ranks, part)})


def own_depth(ranked):
    """The tuple (g, b): the numbers of loops of the longest good chain and of the longest bad one."""
    places = list(range(len(ranked.machine)))
    return _depth_within(ranked.machine.rows(), ranked.ranks(), places)


def is_even(rank):
    """Whether a rank is even."""
    return int(rank) % 2 == 0


def steps_up_to(rows, ranks, most):
    """The rows with None in the place of each goal to which a step of a greater rank leads."""
    return [[goal if rank <= most else None for goal, rank in zip(row, line)] for row, line in zip(rows, ranks)]


def _check_ranks(machine, value):
    """Raises InvalidRanks unless the value is a list of a list of ranks for each place of the machine."""
    if not is_list(value) or len(value) != len(machine):
        raise InvalidRanks(None)
    for position, line in enumerate(value):
        if not is_list(line) or len(line) != len(machine.letters) or not all([_is_rank(rank) for rank in line]):
            raise InvalidRanks(position)


def _is_rank(value):
    """Whether any value is a rank."""
    return is_count(value) and value <= Ranked.MOST_RANK


def _ranks_within(rows, ranks, places):
    """The list of the ranks of all steps from one of these places to one of them."""
    return [rank for place in places for goal, rank in zip(rows[place], ranks[place]) if goal in places]


def _depth_within(rows, ranks, places):
    """The depth by loops of steps among these places alone."""
    good = bad = 0
    for ring in greatest_rings(rows, places):
        greatest = max(_ranks_within(rows, ranks, ring))
        # Loops of the other kind than the greatest one have lesser ranks alone.
        lesser_good, lesser_bad = _depth_within(steps_up_to(rows, ranks, greatest - 1), ranks, ring)
        good = max(good, _ended(lesser_good, is_even(greatest)))
        bad = max(bad, _ended(lesser_bad, not is_even(greatest)))
    return good, bad


def _ended(number, is_same_kind):
    """The number of loops of a longest chain that ends with the greatest loop, which has the kind of the first or not.

    So many (number) loops has a longest chain of loops that lack the greatest rank.
    """
    # Kinds come by turns: with an odd number the last loop has the kind of the first one. If this is the kind of the
    # greatest loop, it stands in the place of the last one, otherwise behind it.
    return number if is_even(number) != is_same_kind else number + 1
