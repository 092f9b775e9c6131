"""Wishes told by ranked machines: with as few ranks as can be, and on the wish's own machine."""

from ringdepth.chains import depth
from ringdepth.checks import check_same_letters
from ringdepth.errors import TooMany
from ringdepth.graphs import greatest_rings, least_text, paired_rows, tour
from ringdepth.machines import Machine
from ringdepth.nests import how_many_ways, kinds, nest
from ringdepth.ranked import Ranked, is_even, steps_up_to
from ringdepth.rings import is_ring, together
from ringdepth.wishes import ring_kinds
from ringdepth.words import Word

# A ranked machine of a wish has a place for each way down, so its limit is the limit here.
MOST_WAYS = 120


def ranked_of(wish):
    """A Ranked of the same words with as few RANKS as can be."""
    if how_many_ways(wish) > MOST_WAYS:
        raise TooMany("ways", MOST_WAYS)
    goals = wish.machine.rows()
    children = nest(wish)
    tops = _top_ranks(wish, children)
    order = [(0, _way_down(children, list(tops), 0))]
    numbers = {order[0]: 0}
    rows = []
    ranks = []
    while len(rows) < len(order):
        place, way = order[len(rows)]
        steps = [_step(children, tops, way, goal) for goal in goals[place]]
        ranks.append([rank for rank, _ in steps])
        behind = [(goal, next_way) for goal, (_, next_way) in zip(goals[place], steps)]
        for pair in behind:
            if pair not in numbers:
                numbers[pair] = len(order)
                order.append(pair)
        rows.append([numbers[pair] for pair in behind])
    return Ranked(Machine(wish.letters, rows), ranks)


def differs(wish, ranked):
    """A Word that just one of both grants; None if they grant the same words."""
    check_same_letters(wish, ranked)
    rows, pairs = paired_rows(wish.machine.rows(), ranked.machine.rows())
    lines = ranked.ranks()
    ranks = [lines[near] for _, near in pairs]
    told = ring_kinds(wish)
    for rank in ranked.used():
        low = steps_up_to(rows, ranks, rank)
        for ring in [one for one in told if told[one] != is_even(rank)]:
            found = _loop_over(low, ranks, pairs, ring, rank)
            if found is not None:
                return _word_of_loop(wish.letters, rows, low, found)
    return None


def is_ranked_of(wish, value):
    """Whether any value is a Ranked with the letters of the wish that grants the same words."""
    return isinstance(value, Ranked) and value.letters == wish.letters and differs(wish, value) is None


def own_ranks(wish):
    """A Ranked with the wish's machine of the same words; None if there is none."""
    if spoilers(wish) is not None:
        return None
    goals = wish.machine.rows()
    children = nest(wish)
    tops = _top_ranks(wish, children)
    # Without spoilers the children of a node have no common places, so each place has one way down.
    own = [_way_down(children, list(tops), place) for place in range(len(goals))]
    return Ranked(wish.machine, [[_step(children, tops, way, goal)[0] for goal in row] for way, row in zip(own, goals)])


def spoilers(wish):
    """The least tuple of two rings, the lesser one first, that spoil its own ranks; None if none do."""
    told = ring_kinds(wish)
    found = list(told)
    for at, one in enumerate(found):
        for other in found[at + 1:]:
            if _spoil(wish, one, other):
                return one, other
    return None


def do_spoil(wish, value):
    """Whether any value is a tuple of two rings that spoil its own ranks."""
    if not isinstance(value, tuple) or len(value) != 2:
        return False
    one, other = value
    return is_ring(wish.machine, one) and is_ring(wish.machine, other) and _spoil(wish, one, other)


def _spoil(wish, one, other):
    """Whether these two rings spoil its own ranks."""
    if wish[one] != wish[other]:
        return False
    whole = together(one, other)
    # A ring and itself are together a ring of their kind, so they need not be told apart.
    return whole is not None and wish[whole] != wish[one]


def _top_ranks(wish, children):
    """The dict from the parts, sorted, to the ranks of the first level of their ways down."""
    good, bad = depth(wish)
    tops = {}
    for part, is_good in kinds(wish).items():
        height = _height(children, part)
        # Kinds come by turns from level to level; where bad chains are longest ranks begin with 1, otherwise with 0.
        if is_good != is_even(height):
            lowest = 2 if bad > good else 0
        else:
            lowest = 1
        tops[part] = lowest + height - 1
    return tops


def _height(children, node):
    """The number of levels from this node down."""
    return 1 + max([_height(children, child) for child in children[node]], default=0)


def _way_down(children, nodes, place):
    """The tuple of the way from the first of these nodes that has the place down by first children."""
    way = []
    with_place = [node for node in nodes if place in node]
    while with_place:
        way.append(with_place[0])
        with_place = [child for child in children[way[-1]] if place in child]
    return tuple(way)


def _step(children, tops, way, goal):
    """The rank of a step to this goal from a place with this way down, and the way down behind it."""
    kept = [node for node in way if goal in node]
    if not kept:
        # No word makes a step out of a part again and again, so any rank will do.
        return 0, _way_down(children, list(tops), goal)
    turn = children[kept[-1]]
    if len(kept) < len(way):
        at = turn.index(way[len(kept)]) + 1
        turn = turn[at:] + turn[:at]
    return tops[way[0]] - len(kept) + 1, tuple(kept) + _way_down(children, turn, goal)


def _loop_over(low, ranks, pairs, ring, rank):
    """A loop of the paired machine over just the places of this ring of the wish, whose greatest rank is this one.

    It is told by a tuple: the dict from its places to those of the wish, and the place and column of a step of this
    rank. low are the rows without steps of greater ranks. None if there is none.
    """
    inside = [place for place, (mine, _) in enumerate(pairs) if mine in ring]
    for loop in greatest_rings(low, inside):
        marks = {place: pairs[place][0] for place in loop}
        steps = [(place, column) for place in loop for column, goal in enumerate(low[place])
                 if ranks[place][column] == rank and goal in marks]
        if steps and sorted(set(list(marks.values()))) == list(ring):
            place, column = steps[0]
            return marks, place, column
    return None


def _word_of_loop(letters, rows, low, found):
    """A Word that goes round by such a loop for ever."""
    marks, place, column = found
    # At most six ways between places of the loop, each with no more letters than it has places, which are 720 at most.
    lap = letters[column] + tour(low, letters, marks, low[place][column], place)
    return Word(least_text(rows, letters, place), lap)
