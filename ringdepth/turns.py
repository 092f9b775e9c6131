"""Lists of rings, good and bad by turns."""


def longest_by_turns(kinds, behind, is_good):
    """A longest list that begins with this kind, good and bad by turns; the empty list if there is none.

    kinds tells whether each ring is good, behind the list of those rings that may come later than it. Those that may
    come later than one of these are in this list, too.
    """
    lists = {}
    # Rings with fewer rings behind them come first, so the lists of all that may come next are known.
    for ring in sorted(kinds, key=lambda each: len(behind[each])):
        ends = [lists[other] for other in behind[ring] if kinds[other] != kinds[ring]]
        lists[ring] = [ring] + max(ends, key=len, default=[])
    return max([lists[ring] for ring in kinds if kinds[ring] == is_good], key=len, default=[])
