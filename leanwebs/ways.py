"""Ways between places, ways that do not meet, and the places that cut."""

from leanwebs.along import need_row
from leanwebs.errors import BadBundle, BadCount, TooMany
from leanwebs.given import four_places, need_small, pieces_without, place_of, row_of, two_places
from leanwebs.ratios import is_integer, is_row


def steps_from(web, place):
    """Return the list of tuples (number, other end) of the ties at the place, without loops and pulls 0."""
    return [(number, u + v - place) for number, (u, v, t) in enumerate(web.ties)
            if t[0] != 0 and u != v and place in (u, v)]


def all_ways(web, u, v):
    """Return the list of tuples (way, its places in order) of all ways from u to v, the lesser way first."""
    found = []
    waiting = [((), (u,))]
    while waiting:
        way, places = waiting.pop()
        if places[-1] == v:
            found.append((way, places))
        else:
            waiting.extend([(way + (number,), places + (place,)) for number, place in steps_from(web, places[-1])
                            if place not in places])
    return sorted(found)


def ways(web, u, v, *, most=2000):
    """Return the list of all ways from u to v, the lesser one first."""
    need_small(web)
    start, goal = two_places(u, v, web.many)
    if not is_integer(most) or most < 0:
        raise BadCount()
    found = [way for way, _ in all_ways(web, start, goal)]
    if len(found) > most:
        raise TooMany(int(most) + 1, int(most))
    return found


def places_along(web, u, way):
    """Return the places that the way from u visits, in order."""
    places = (place_of(u, web.many),)
    if not is_row(way) or not way:
        raise BadBundle()
    for number in way:
        reached = [place for step, place in steps_from(web, places[-1]) if is_integer(number) and step == number]
        if not reached or reached[0] in places:
            raise BadBundle()
        places = places + (reached[0],)
    return places


def two_pairs(pair, other, many):
    """Return four places, those of the first pair first; BadRow unless these are two pairs of distinct places."""
    need_row(pair, 2)
    need_row(other, 2)
    return row_of(list(pair) + list(other), many)


def first_apart(web, pair, other):
    """Return the first two ways that do not meet, one between the places of each pair, or None."""
    others = all_ways(web, other[0], other[1])
    for way, places in all_ways(web, pair[0], pair[1]):
        for second, met in others:
            if not [place for place in met if place in places]:
                return (way, second)
    return None


def apart(web, pair, other):
    """Return two ways that do not meet, one between the places of each pair, or None if there are none."""
    need_small(web)
    a, b, c, d = two_pairs(pair, other, web.many)
    return first_apart(web, (a, b), (c, d))


def linked(web, pair, other):
    """Return whether two ways that do not meet lead from one pair to the other."""
    need_small(web)
    a, b, c, d = two_pairs(pair, other, web.many)
    return first_apart(web, (a, c), (b, d)) is not None or first_apart(web, (a, d), (b, c)) is not None


def cuts(web, x, u, w):
    """Return whether each way from u to w visits x."""
    place = place_of(x, web.many)
    pair = two_places(u, w, web.many)
    return place in pair or not [block for block in pieces_without(web, place) if pair[0] in block and pair[1] in block]


def places_in(block, places):
    """Return the list of those of the places that are in the block."""
    return [place for place in places if place in block]


def cutting_place(web, pair, other):
    """Return the least place that each way from one pair to the other visits, or None."""
    a, b, c, d = two_pairs(pair, other, web.many)
    for x in range(web.many):
        if not [block for block in pieces_without(web, x) if places_in(block, (a, b)) and places_in(block, (c, d))]:
            return x
    return None


def cuts_all(web, four):
    """Return the least place that cuts all of the four places, or None."""
    wanted = four_places(four, web.many)
    for x in range(web.many):
        if all([len(places_in(block, wanted)) < 2 for block in pieces_without(web, x)]):
            return x
    return None
