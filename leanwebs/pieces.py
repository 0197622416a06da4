"""Which places hang together, and what functions need of a web."""

from leanwebs.errors import Apart, BelowZero, NotPositive
from leanwebs.lots import lot_of
from leanwebs.ratios import sign_of


def parts_of(places, pairs):
    """Return the parting into which the pairs join the places, which are in ascending order."""
    part = {place: place for place in places}
    for u, v in pairs:
        old = part[v]
        new = part[u]
        part = {place: new if part[place] == old else part[place] for place in places}
    blocks = {}
    for place in places:
        blocks[part[place]] = blocks.get(part[place], ()) + (place,)
    return tuple(blocks.values())


def pieces(web):
    """Return the parting into pieces."""
    pairs = [(u, v) for u, v, (p, _) in web.ties if p != 0]
    return parts_of(list(range(web.many)), pairs)


def hangs(web):
    """Return whether there is just one piece."""
    return len(pieces(web)) == 1


def hangs_within(web, lot):
    """Return whether the lot hangs together, by the shape, through ties with both ends in it."""
    places = lot_of(lot, web.many)
    pairs = [(u, v) for u, v, _ in web.ties if u in places and v in places]
    return len(parts_of(places, pairs)) == 1


def need_positive(web):
    """Raise NotPositive if some pull is not above 0."""
    for number, (_, _, t) in enumerate(web.ties):
        if sign_of(t) <= 0:
            raise NotPositive(number)


def need_not_below(web):
    """Raise BelowZero if some pull is below 0."""
    for number, (_, _, t) in enumerate(web.ties):
        if sign_of(t) < 0:
            raise BelowZero(number)


def need_hanging(web):
    """Raise Apart if the web does not hang together."""
    if not hangs(web):
        raise Apart()
