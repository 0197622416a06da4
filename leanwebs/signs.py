"""Forests of a lot, what signs of pulls do to its mean, and bounds of a mean by ways."""

from leanwebs.bundles import bundles_with, is_ringless, product_of
from leanwebs.errors import BadPull
from leanwebs.given import need_small
from leanwebs.lots import even_lot_of
from leanwebs.odds import need_like_shapes
from leanwebs.pieces import need_not_below, need_positive
from leanwebs.ratios import at_most, sum_of, times
from leanwebs.ways import ways


def forests(web, lot):
    """Return the list of the forests of the lot, in order."""
    need_small(web)
    even = even_lot_of(lot, web.many)
    return [numbers for numbers in bundles_with(web, even) if is_ringless(web, numbers)]


def need_lesser(web, other):
    """Raise BadPull for the first tie whose pull in other is greater in size than in the positive web."""
    for number in range(len(web.ties)):
        p, q = other.pull(number)
        if not at_most((abs(p), q), web.pull(number)):
            raise BadPull(number)


def sign_kept(web, other, lot):
    """Return 1, -1 or 0 as the products of all forests are kept, turned or neither; 2 without a forest."""
    need_small(web)
    need_positive(web)
    need_like_shapes(web, other)
    need_lesser(web, other)
    found = forests(web, lot)
    pairs = [(product_of(web, numbers), product_of(other, numbers)) for numbers in found]
    if not pairs:
        return 2
    for sign in (1, -1):
        if all([two == times(sign, one) for one, two in pairs]):
            return sign
    return 0


def way_bounds(web, u, v):
    """Return the greatest product of pulls along a way, and the sum of these products over all ways."""
    need_small(web)
    need_not_below(web)
    products = [product_of(web, way) for way in ways(web, u, v)]
    greatest = (0, 1)
    for one in products:
        if at_most(greatest, one):
            greatest = one
    return (greatest, sum_of(products))
