"""Second reckonings for the tests of chains, nests, ranked machines and what is settled, slow and plain.

They go through all rings, all chains, all sets of steps or all pairs of places, and ask the package for nothing but
the rows, letters and good rings of what is told.
"""

from itertools import product

from tests import plain


def ring_kinds(wish):
    """The dict from all rings of a wish to whether they are good."""
    good = wish.good()
    return {ring: ring in good for ring in plain.rings(wish.machine.rows())}


def chains(kinds):
    """The list of all chains, by putting each greater ring of the other kind behind each chain."""
    found = [[ring] for ring in kinds]
    for chain in found:
        last = chain[-1]
        found += [chain + [ring] for ring in kinds if kinds[ring] != kinds[last] and set(last) < set(ring)]
    return found


def longest(kinds):
    """The depth, by going through all chains."""
    most = {True: 0, False: 0}
    for chain in chains(kinds):
        most[kinds[chain[0]]] = max(most[kinds[chain[0]]], len(chain))
    return most[True], most[False]


def least_ranks(depth):
    """How many ranks a wish of this depth needs, as the document lists the cases."""
    good, bad = depth
    if good == bad:
        return good + 1
    return good if good > bad else bad


def parts(rows):
    """The sorted list of the parts."""
    return plain.greatest(plain.rings(rows))


def part_of(rows):
    """For each place the part that it is in, or None."""
    found = parts(rows)
    return [next((part for part in found if place in part), None) for place in range(len(rows))]


def children(kinds, node):
    """The sorted list of the greatest rings of the other kind within a node."""
    return plain.greatest([ring for ring in kinds if kinds[ring] != kinds[node] and set(ring) < set(node)])


def nest(kinds):
    """The nest, node by node."""
    found = {}
    nodes = plain.greatest(list(kinds))
    while nodes:
        found.update({node: children(kinds, node) for node in nodes})
        nodes = [child for node in nodes for child in found[node] if child not in found]
    return found


def ways(kinds, place):
    """The sorted list of the ways down at a place, node by node."""
    going = [[]]
    done = []
    tree = nest(kinds)
    while going:
        way = going.pop()
        nodes = tree[way[-1]] if way else plain.greatest(list(kinds))
        nodes = [node for node in nodes if place in node]
        going += [way + [node] for node in nodes]
        if not nodes:
            done.append(way)
    return sorted(done)


def reach(rows):
    """For each place the set, told by bits, of the places to which one or more steps lead; None is no step."""
    found = [0 for _ in rows]
    for place, row in enumerate(rows):
        for goal in row:
            if goal is not None:
                found[place] |= 1 << goal
    for between in range(len(rows)):
        for place in range(len(rows)):
            if found[place] >> between & 1:
                found[place] |= found[between]
    return found


def come_back(rows):
    """The list of the sets of places that lead to one another by one or more steps, and to themselves."""
    ahead = reach(rows)
    found = []
    for place in range(len(rows)):
        kin = {other for other in range(len(rows)) if ahead[place] >> other & 1 and ahead[other] >> place & 1}
        if place in kin and kin not in found:
            found.append(kin)
    return found


def low_rows(rows, ranks, most, inside=None):
    """The rows without steps of greater ranks, and without steps that leave places inside."""
    return [[goal if rank <= most and (inside is None or (place in inside and goal in inside)) else None
             for goal, rank in zip(row, line)] for place, (row, line) in enumerate(zip(rows, ranks))]


def loops(rows):
    """The list of all loops, told by sets of steps (place, column), by trying all sets of steps; fewer steps first."""
    steps = [(place, column) for place, row in enumerate(rows) for column in range(len(row))]
    found = []
    for taken in product([False, True], repeat=len(steps)):
        kept = {step for step, is_in in zip(steps, taken) if is_in}
        ends = {place for place, _ in kept}
        only = [[goal if (place, column) in kept else None for column, goal in enumerate(row)]
                for place, row in enumerate(rows)]
        if kept and all({near for near in range(len(rows)) if bits >> near & 1} == ends
                        for bits in [reach(only)[place] for place in ends]):
            found.append(kept)
    return sorted(found, key=len)


def longest_growing(sets, kinds):
    """The depth by sets, fewer members first, each with its kind: each next one has all members and more."""
    most = []
    depth = {True: 0, False: 0}
    for at, mine in enumerate(sets):
        ahead = {True: 0, False: 0}
        ahead[kinds[at]] = 1
        for before in range(at):
            if kinds[before] != kinds[at] and sets[before] < mine:
                for first, many in most[before].items():
                    ahead[first] = max(ahead[first], many + 1 if many else 0)
        most.append(ahead)
        depth = {first: max(depth[first], ahead[first]) for first in depth}
    return depth[True], depth[False]


def depth_by_loops(rows, ranks):
    """The own depth of a ranked machine by all loops."""
    found = loops(rows)
    kinds = [max(ranks[place][column] for place, column in loop) % 2 == 0 for loop in found]
    return longest_growing(found, kinds)


def depth_by_ranks(rows, ranks):
    """The own depth, by the greatest loops of each rank: places that lead to one another by no greater ranks."""
    found = []
    for rank in sorted({rank for line in ranks for rank in line}):
        low = low_rows(rows, ranks, rank)
        for kin in come_back(low):
            steps = {(place, column) for place in kin for column, goal in enumerate(low[place]) if goal in kin}
            if any(ranks[place][column] == rank for place, column in steps):
                found.append((steps, rank % 2 == 0))
    found.sort(key=lambda one: len(one[0]))
    return longest_growing([steps for steps, _ in found], [kind for _, kind in found])


def greatest_again(rows, letters, ranks, begin, lap):
    """The greatest rank that comes again and again, by walking laps until the walk must be in its circle."""
    place = plain.goes(rows, letters, 0, begin + lap * len(rows))
    found = []
    for letter in lap * len(rows):
        found.append(ranks[place][letters.index(letter)])
        place = rows[place][letters.index(letter)]
    return max(found)


def used(rows, ranks):
    """The sorted list of the ranks of those steps that can be made again."""
    ahead = reach(rows)
    return sorted({rank for place, (row, line) in enumerate(zip(rows, ranks))
                   for goal, rank in zip(row, line) if ahead[goal] >> place & 1})


def differ(wish, rows, ranks):
    """Whether a ranked machine, told by rows and ranks, grants other words than a wish, by pairs of places."""
    mine = wish.machine.rows()
    kinds = ring_kinds(wish)
    listed = [(one, other) for one in range(len(mine)) for other in range(len(rows))]
    numbers = {pair: number for number, pair in enumerate(listed)}
    goals = [[numbers[both] for both in zip(mine[one], rows[other])] for one, other in listed]
    met = plain.come_to(goals)
    lines = [ranks[other] for _, other in listed]
    for ring, is_good in kinds.items():
        inside = {number for number in met if listed[number][0] in ring}
        for rank in {rank for line in ranks for rank in line if (rank % 2 == 0) != is_good}:
            low = low_rows(goals, lines, rank, inside)
            for kin in come_back(low):
                over = {listed[number][0] for number in kin}
                if over == set(ring) and any(goal in kin and lines[number][column] == rank for number in kin
                                             for column, goal in enumerate(low[number])):
                    return True
    return False


def do_spoil(kinds, one, other):
    """Whether two rings spoil own ranks, as the document tells it."""
    whole = tuple(sorted(set(one) | set(other)))
    return one != other and kinds[one] == kinds[other] and bool(set(one) & set(other)) and kinds[whole] != kinds[one]


def spoilers(kinds):
    """The list of all tuples of two rings, the lesser one first, that spoil own ranks."""
    return [(one, other) for one in sorted(kinds) for other in sorted(kinds)
            if one < other and do_spoil(kinds, one, other)]


def answers(wish):
    """For each place whether the wish is settled there, by all rings that are come to."""
    rows = wish.machine.rows()
    kinds = ring_kinds(wish)
    found = []
    for place in range(len(rows)):
        met = {kinds[ring] for ring in kinds if set(ring) <= plain.come_to(rows, place)}
        found.append({(True,): "yes", (False,): "no", (False, True): "open"}[tuple(sorted(met))])
    return found


def part_rows(wish):
    """The list of all rows of a weak wish, by putting each part of the other kind that is come to behind each row."""
    rows = wish.machine.rows()
    kinds = {part: part in wish.good() for part in parts(rows)}
    found = [[part] for part in kinds]
    for one in found:
        met = plain.come_to(rows, one[-1][0])
        found += [one + [part] for part in kinds if kinds[part] != kinds[one[-1]] and set(part) <= met]
    return found


def weak_classes(wish):
    """The sorted list of the sorted lists of alike places of a weak wish, by pairs of places that come again."""
    mine = wish.machine.rows()
    kind = [None if part is None else part in wish.good() for part in part_of(mine)]
    rows, listed = plain.pairs(mine, mine)
    ahead = reach(rows)
    again = [number for number in range(len(rows)) if ahead[number] >> number & 1]
    wrong = [number for number in again if kind[listed[number][0]] != kind[listed[number][1]]]
    found = {}
    for place in range(len(mine)):
        near = next((first for first in found if not any(
            number == listed.index((first, place)) or ahead[listed.index((first, place))] >> number & 1
            for number in wrong)), place)
        found.setdefault(near, []).append(place)
    return sorted(found.values())
