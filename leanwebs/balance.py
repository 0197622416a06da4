"""Minus rings, sign sayings, and stretches in which a mixed corner has the greatest mean."""

from leanwebs.bundles import all_bundles, need_few_ties, product_of
from leanwebs.clusters import fitting_saying
from leanwebs.lots import joined
from leanwebs.pieces import parts_of, pieces
from leanwebs.ratios import sign_of
from leanwebs.stretches import Stretches

TINY = (1, 1000000)
LARGE = (1, 2)


def is_ring(web, numbers):
    """Return whether the ties of these numbers are a ring of two or more ties."""
    pairs = [web.ends(number) for number in numbers]
    met = [place for pair in pairs for place in pair]
    places = sorted(set(met))
    # A loop alone would do as well; beside other ties it cannot hang together with them.
    twice = all([met.count(place) == 2 for place in places])
    return len(numbers) > 1 and twice and len(parts_of(places, pairs)) == 1


def minus_ring(web):
    """Return the first ring of two or more ties with a product of pulls below 0, or None."""
    need_few_ties(web)
    for numbers in all_bundles(web):
        if sign_of(product_of(web, numbers)) < 0 and is_ring(web, numbers):
            return numbers
    return None


def signs_saying(web):
    """Return the first saying with ends alike where a pull is above 0 and unlike where it is below 0, or None."""
    said = fitting_saying(web, [number for number, (u, v, (p, _)) in enumerate(web.ties) if u != v and p != 0])
    if said is None:
        return None
    turn = {place: said[piece[0]] for piece in pieces(web) for place in piece}
    return tuple([entry * turn[place] for place, entry in enumerate(said)])


def signed_stretch(sign, low, high):
    """Return the stretch of pulls with this sign and with sizes from low to high."""
    if sign < 0:
        return ((-high[0], high[1]), (-low[0], low[1]))
    return (low, high) if sign > 0 else (0, 0)


def beyond(web):
    """Return stretches, a lot and the bundle of a corner that is beyond for it, or None without a minus ring."""
    ring = minus_ring(web)
    if ring is None:
        return None
    # At the corner the first tie of the ring is large and all others are tiny. With all others of the ring large,
    # too, they would work against the first one, whose product with theirs is below 0.
    signs = [sign_of(pull) for _, _, pull in web.ties]
    rows = [signed_stretch(sign, TINY, LARGE if number in ring else TINY) for number, sign in enumerate(signs)]
    u, v = web.ends(ring[0])
    bundle = tuple([number for number in ring if (signs[number] > 0) == (number == ring[0])])
    return (Stretches(rows), joined((u,), (v,)), bundle)
