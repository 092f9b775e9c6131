"""Ways over plain rows: for each place the list of its goals, by the letters.

In some rows None stands in the place of a goal: no step may be made there. Where places are told as inside, they are
a dict whose keys are these places.
"""


def places_from(rows, start):
    """The places that are come to from start, numbered as come to: start, then the goals as they are met."""
    order = [start]
    met = {start: True}
    at = 0
    while at < len(order):
        for goal in rows[order[at]]:
            if goal not in met:
                met[goal] = True
                order.append(goal)
        at = at + 1
    return order


def renumbered(rows, order):
    """The rows of the places in order, which are 0, 1 and so on there."""
    numbers = {place: number for number, place in enumerate(order)}
    return [[numbers[goal] for goal in rows[place]] for place in order]


def merged(rows, kin):
    """The rows in which places with one number in kin are one place, numbered as come to; and the least one of each.

    The numbers go from 0 on; places with one number have goals with one number, letter by letter.
    """
    old = [kin.index(number) for number in range(max(kin) + 1)]
    steps = [[kin[goal] for goal in rows[place]] for place in old]
    order = places_from(steps, kin[0])
    return renumbered(steps, order), [old[number] for number in order]


def paired_rows(firsts, seconds):
    """The rows of the pairs that are come to from (0, 0), numbered as come to, and the list of these pairs."""
    many = len(seconds)
    # The pair (first, second) is told by one number, first * many + second.
    steps = [[goal * many + near for goal, near in zip(first, second)] for first in firsts for second in seconds]
    order = places_from(steps, 0)
    return renumbered(steps, order), [divmod(pair, many) for pair in order]


def path(rows, letters, place, text):
    """The places of the walk from place by the text, one more than the letters."""
    places = [place]
    for letter in text:
        places.append(rows[places[-1]][letters.index(letter)])
    return places


def walks_again(rows, letters, start, lap):
    """The walks of one lap each that come again and again when the lap is gone from start for ever."""
    walks = []
    starts = [start]
    # Behind each lap the walk stands at a place; once one of these comes again, so does all since then.
    while starts[-1] not in starts[:-1]:
        walks.append(path(rows, letters, starts[-1], lap))
        starts.append(walks[-1][-1])
    return walks[starts.index(starts[-1]):]


def backward(rows):
    """For each place the list of the places whose goal it is."""
    back = [[] for _ in rows]
    for place, row in enumerate(rows):
        for goal in row:
            if goal is not None:
                back[goal].append(place)
    return back


def reached(rows, start, inside):
    """A dict of the places to which one or more steps lead from start through places inside alone."""
    found = {}
    queue = [start]
    at = 0
    while at < len(queue):
        for goal in rows[queue[at]]:
            if goal in inside and goal not in found:
                found[goal] = True
                queue.append(goal)
        at = at + 1
    return found


def first_texts(rows, letters, start, inside):
    """A dict from the places that are reached so to the least text of one or more letters, the least one first."""
    texts = {}
    queue = [(start, "")]
    at = 0
    while at < len(queue):
        place, text = queue[at]
        for letter, goal in zip(letters, rows[place]):
            if goal in inside and goal not in texts:
                texts[goal] = text + letter
                queue.append((goal, text + letter))
        at = at + 1
    return texts


def is_round(rows, back, places):
    """Whether one or more places are a ring; back are the rows backward."""
    inside = {place: True for place in places}
    ahead = reached(rows, places[0], inside)
    # A ring is all that one of its places leads to within it, and all that leads to this place.
    return len(ahead) == len(inside) and len(reached(back, places[0], inside)) == len(inside)


def greatest_rings(rows, places):
    """The sorted list of the greatest ones of the rings with no other places than these."""
    back = backward(rows)
    left = {place: True for place in places}
    found = []
    order = _as_left(rows, left)
    # What leads to the place that was left last is led to by it, too: otherwise it would have been left later.
    for place in order[::-1]:
        if place in left:
            ring = sorted(reached(back, place, left))
            # A place that no way leads back to is in no ring.
            for near in ring or [place]:
                del left[near]
            if ring:
                found.append(tuple(ring))
    return sorted(found)


def _as_left(rows, inside):
    """The places inside in the sequence in which a walk that always goes on first, and then back, leaves them."""
    order = []
    met = {}
    for start in inside:
        stack = [(start, False)]
        while stack:
            place, is_left = stack.pop()
            if is_left:
                order.append(place)
            elif place not in met:
                met[place] = True
                stack.append((place, True))
                for goal in rows[place]:
                    if goal in inside and goal not in met:
                        stack.append((goal, False))
    return order


def all_rings(rows):
    """The sorted list of all rings; it tries all sets of places, so it is for few of them."""
    back = backward(rows)
    lots = [()]
    for place in range(len(rows)):
        lots = lots + [lot + (place,) for lot in lots]
    return sorted([lot for lot in lots if lot and is_round(rows, back, lot)])


def least_text(rows, letters, place):
    """The least text that leads to this place from place 0."""
    if place == 0:
        return ""
    return first_texts(rows, letters, 0, {near: True for near in range(len(rows))})[place]


def round_text(rows, letters, ring, place):
    """A lap of the ring at this place."""
    # Between now and a nearest place left there are only places that were met, so the lap of 120 places
    # has at most 1 + 2 + .. + 119 letters and 119 back, fewer than a Word may have.
    return tour(rows, letters, {near: near for near in ring}, place, place)


def tour(rows, letters, marks, start, home):
    """A text from start through places of marks alone to home that meets a place of each mark.

    It goes always on to a nearest place of a mark that is left, and to home in the end.
    """
    left = [mark for mark in sorted(set(list(marks.values()))) if mark != marks[start]]
    text = ""
    now = start
    while left:
        texts = first_texts(rows, letters, now, marks)
        now = [near for near in texts if marks[near] in left][0]
        text = text + texts[now]
        left = [mark for mark in left if mark != marks[now]]
    return text + first_texts(rows, letters, now, marks)[home]
