"""Joint rings of two machines: those that some word meets together."""

from ringdepth.graphs import greatest_rings
from ringdepth.machines import paired


def shadow(ring, pairs, side):
    """The places of one machine (side 0) or the other one (side 1) in a ring of the paired machine."""
    return tuple(sorted({pairs[place][side] for place in ring}))


def ring_over(rows, pairs, one, other):
    """A ring of the paired machine whose words meet just these two rings; None if they are not joint."""
    inside = [place for place, (first, second) in enumerate(pairs) if first in one and second in other]
    for ring in greatest_rings(rows, inside):
        if shadow(ring, pairs, 0) == one and shadow(ring, pairs, 1) == other:
            return ring
    return None


def first_joint(one, other, ones, others):
    """The paired machine, and its ring over the first joint rings of ones and others; None if none are joint."""
    machine, pairs = paired(one, other)
    rows = machine.rows()
    for first in ones:
        for second in others:
            ring = ring_over(rows, pairs, first, second)
            if ring is not None:
                return machine, ring
    return None
