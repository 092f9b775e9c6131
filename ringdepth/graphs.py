"""Ways over plain rows: for each place the list of its goals, by the letters.

Where places are told as inside, they are a dict from each of these places to True.
"""


def places_from(rows, start):
    """The places that are come to from start, numbered as come to: start, then the goals as they are met."""
    order = [start]
    met = {start: True}
    at = 0
    while at < len(order):
        for goal in rows[order[at]]:
            if goal not in met:
                met[goal] = True
                order.append(goal)
        at = at + 1
    return order


def renumbered(rows, order):
    """The rows of the places in order, which are 0, 1 and so on there."""
    numbers = {place: number for number, place in enumerate(order)}
    return [[numbers[goal] for goal in rows[place]] for place in order]


def path(rows, letters, place, text):
    """The places of the walk from place by the text, one more than the letters."""
    places = [place]
    for letter in text:
        places.append(rows[places[-1]][letters.index(letter)])
    return places


def backward(rows):
    """For each place the list of the places whose goal it is."""
    back = [[] for _ in rows]
    for place, row in enumerate(rows):
        for goal in row:
            back[goal].append(place)
    return back


def reached(rows, start, inside):
    """A dict of the places to which one or more steps lead from start through places inside alone."""
    found = {}
    queue = [start]
    at = 0
    while at < len(queue):
        for goal in rows[queue[at]]:
            if goal in inside and goal not in found:
                found[goal] = True
                queue.append(goal)
        at = at + 1
    return found


def first_texts(rows, letters, start, inside):
    """A dict from the places that are reached so to the least text of one or more letters, the least one first."""
    texts = {}
    queue = [(start, "")]
    at = 0
    while at < len(queue):
        place, text = queue[at]
        for letter, goal in zip(letters, rows[place]):
            if goal in inside and goal not in texts:
                texts[goal] = text + letter
                queue.append((goal, text + letter))
        at = at + 1
    return texts


def is_round(rows, back, places):
    """Whether one or more places are a ring; back are the rows backward."""
    inside = {place: True for place in places}
    ahead = reached(rows, places[0], inside)
    # A ring is all that one of its places leads to within it, and all that leads to this place.
    return len(ahead) == len(inside) and len(reached(back, places[0], inside)) == len(inside)


def greatest_rings(rows, places):
    """The sorted list of the greatest ones of the rings with no other places than these."""
    back = backward(rows)
    inside = {place: True for place in places}
    order = sorted(inside)
    found = []
    done = {}
    for place in order:
        if place not in done:
            ahead = reached(rows, place, inside)
            behind = reached(back, place, inside)
            ring = [near for near in order if near in ahead and near in behind]
            for near in ring:
                done[near] = True
            if ring:
                found.append(tuple(ring))
    return found


def all_rings(rows):
    """The sorted list of all rings; it tries all sets of places, so it is for few of them."""
    back = backward(rows)
    lots = [()]
    for place in range(len(rows)):
        lots = lots + [lot + (place,) for lot in lots]
    return sorted([lot for lot in lots if lot and is_round(rows, back, lot)])


def round_text(rows, letters, ring, place):
    """A lap of the ring at this place: always on to a nearest place that is left, and back in the end."""
    inside = {near: True for near in ring}
    left = [near for near in ring if near != place]
    text = ""
    now = place
    while left:
        # Between now and a nearest place left there are only places that were met, so the lap of 120 places
        # has at most 1 + 2 + .. + 119 letters and 119 back, fewer than a Word may have.
        texts = first_texts(rows, letters, now, inside)
        now = [near for near in texts if near in left][0]
        text = text + texts[now]
        left = [near for near in left if near != now]
    return text + first_texts(rows, letters, now, inside)[place]
