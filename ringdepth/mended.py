"""How few rings must change their kinds so that a wish becomes an again, an at last or a weak one."""

from ringdepth.chains import is_again, is_at_last, is_weak
from ringdepth.checks import is_list
from ringdepth.errors import InvalidSort
from ringdepth.rings import is_ring, lies_in, parts
from ringdepth.wishes import ring_kinds

# The sorts that bars stand against.
BARRED = ("again", "at last")


def how_many_turned(wish, sort):
    """The fewest rings that mend the wish towards this sort when they are turned."""
    return len(mended(wish, sort))


def mended(wish, sort):
    """A sorted list of as few rings as can be that mend the wish."""
    _check_sort(sort, BARRED + ("weak",))
    if sort == "weak":
        return _lesser_kinds(wish)
    greater = _greater(wish, sort)
    mates = _mates(greater)
    # A lesser ring without a mate is kept as it is. So all greater ones beside it are turned, so the mates of these
    # are kept, too, and so on.
    turned = {}
    kept = [one for one in greater if one not in list(mates.values())]
    for one in kept:
        # It finds no mate here, but goes through just these greater rings.
        _find_mate(greater, mates, one, turned)
    kept = kept + [mates[other] for other in turned]
    return sorted([one for one in greater if one not in kept] + list(turned))


def is_mended(wish, sort, rings):
    """Whether the wish is of this sort when these rings are turned."""
    _check_sort(sort, BARRED + ("weak",))
    turned = wish.turned(rings)
    if sort == "again":
        return is_again(turned)
    return is_at_last(turned) if sort == "at last" else is_weak(turned)


def bars(wish, sort):
    """A list of as many bars apart against this sort as can be."""
    _check_sort(sort, BARRED)
    mates = _mates(_greater(wish, sort))
    return [(mates[other], other) for other in mates]


def are_bars(wish, sort, value):
    """Whether any value is a list of bars apart against this sort."""
    _check_sort(sort, BARRED)
    if not is_list(value) or not all([_is_bar(wish, sort, bar) for bar in value]):
        return False
    return len(set([ring for bar in value for ring in bar])) == 2 * len(value)


def _check_sort(value, sorts):
    """Raises InvalidSort unless the value is one of these sorts."""
    if not isinstance(value, str) or value not in sorts:
        raise InvalidSort(value)


def _is_bar(wish, sort, value):
    """Whether any value is a bar against this sort."""
    if not isinstance(value, tuple) or len(value) != 2 or not all([is_ring(wish.machine, ring) for ring in value]):
        return False
    one, other = value
    return wish[one] == (sort == "again") and wish[other] != wish[one] and lies_in(one, other)


def _greater(wish, sort):
    """The dict from each ring that may be the lesser one of a bar to the list of the greater ones beside it."""
    kinds = ring_kinds(wish)
    lesser = [ring for ring in kinds if kinds[ring] == (sort == "again")]
    return {one: [other for other in kinds if kinds[other] != kinds[one] and lies_in(one, other)] for one in lesser}


def _mates(greater):
    """The dict from greater rings to lesser ones, of as many bars apart as can be."""
    mates = {}
    for one in greater:
        _find_mate(greater, mates, one, {})
    return mates


def _find_mate(greater, mates, one, asked):
    """Whether this lesser ring gets a mate, perhaps one whose mate takes another one; asked are not asked again."""
    for other in greater[one]:
        if other not in asked:
            asked[other] = True
            if other not in mates or _find_mate(greater, mates, mates[other], asked):
                mates[other] = one
                return True
    return False


def _lesser_kinds(wish):
    """The sorted list of those rings of each part that have the rarer kind there."""
    kinds = ring_kinds(wish)
    found = []
    for part in parts(wish.machine):
        good = [ring for ring in kinds if kinds[ring] and lies_in(ring, part)]
        bad = [ring for ring in kinds if not kinds[ring] and lies_in(ring, part)]
        found = found + min([good, bad], key=len)
    return sorted(found)
