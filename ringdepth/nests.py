"""Nests: the greatest rings of the other kind within a ring, and again within these."""

from ringdepth.checks import check_place, is_list
from ringdepth.errors import InvalidKinds, InvalidNest
from ringdepth.rings import is_ring, lies_in, parts, rings
from ringdepth.wishes import Wish, ring_kinds


def nest(wish):
    """The dict from the nodes, sorted, to the sorted lists of their children."""
    return _nest_of(ring_kinds(wish), parts(wish.machine))


def ways(wish, place):
    """The sorted list of the ways down at this place."""
    check_place(place, len(wish.machine))
    return _ways_from(nest(wish), parts(wish.machine), place)


def how_many_ways(wish):
    """The number of the ways down at all places together."""
    children = nest(wish)
    tops = parts(wish.machine)
    return sum([len(_ways_from(children, tops, place)) for place in range(len(wish.machine))])


def kinds(wish):
    """The dict from the parts, sorted, to whether they are good."""
    return {part: wish[part] for part in parts(wish.machine)}


def wish_of_nest(machine, kinds, nest):
    """The wish with these kinds of its parts and this nest."""
    tops = parts(machine)
    if not _are_kinds(machine, tops, kinds):
        raise InvalidKinds(kinds)
    found = rings(machine)
    if not _is_like_nest(machine, tops, nest):
        raise InvalidNest(nest)
    told = {ring: _kind_within(kinds, nest, ring) for ring in found}
    # The kinds of all rings follow from a nest, so it is one if they lead back to it.
    if _nest_of(told, tops) != {node: list(nest[node]) for node in nest}:
        raise InvalidNest(nest)
    return Wish(machine, [ring for ring in found if told[ring]])


def _nest_of(told, tops):
    """The nest of a wish whose rings have the kinds that are told, and whose parts are tops."""
    found = {}
    queue = list(tops)
    while queue:
        node = queue.pop()
        if node not in found:
            found[node] = _children(told, node)
            queue = queue + found[node]
    return {node: found[node] for node in sorted(found)}


def _children(told, node):
    """The sorted list of the greatest rings of the other kind within a node."""
    within = [ring for ring in told if told[ring] != told[node] and lies_in(ring, node)]
    greatest = []
    # A ring lies in no ring of fewer places, so each one is kept or not as its turn comes.
    for ring in sorted(within, key=len, reverse=True):
        if not any([lies_in(ring, other) for other in greatest]):
            greatest.append(ring)
    return sorted(greatest)


def _ways_from(children, nodes, place):
    """The sorted list of the lists of nodes with this place that go from one of these nodes down as far as can be."""
    with_place = [node for node in nodes if place in node]
    if not with_place:
        return [[]]
    return [[node] + way for node in with_place for way in _ways_from(children, children[node], place)]


def _are_kinds(machine, tops, value):
    """Whether any value is a dict from just the parts of the machine to bools."""
    if not isinstance(value, dict) or not all([is_ring(machine, ring) for ring in value]):
        return False
    return sorted(value) == tops and all([isinstance(value[ring], bool) for ring in value])


def _is_like_nest(machine, tops, value):
    """Whether any value is a dict from the parts and more rings to lists of lesser ones of these rings within them."""
    if not isinstance(value, dict) or not all([is_ring(machine, node) for node in value]):
        return False
    if not all([is_list(value[node]) for node in value]) or not all([top in value for top in tops]):
        return False
    return all([is_ring(machine, child) and child in value and len(child) < len(node) and lies_in(child, node)
                for node in value for child in value[node]])


def _kind_within(kinds, nest, ring):
    """The kind of a ring: it is that of a node in which it lies, but in none of whose children it does."""
    node = [part for part in kinds if lies_in(ring, part)][0]
    is_good = kinds[node]
    deeper = [child for child in nest[node] if lies_in(ring, child)]
    while deeper:
        is_good = not is_good
        deeper = [child for child in nest[deeper[0]] if lies_in(ring, child)]
    return is_good
