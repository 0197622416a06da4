"""How far odds are moved."""

from leanwebs.errors import BadLot, UnlikeShapes
from leanwebs.lots import even_lot_of, lot_of
from leanwebs.ratios import at_most, odds_of, over, product_over
from leanwebs.sums import mean


def tie_factor(pull, other):
    """Return the greater odds of the two ratios divided by the lesser."""
    one = odds_of(pull)
    two = odds_of(other)
    return over(two, one) if at_most(one, two) else over(one, two)


def need_like_shapes(web, other):
    """Raise UnlikeShapes unless the two webs have the same shape."""
    if web.shape != other.shape:
        raise UnlikeShapes()


def factor(web, other):
    """Return the product over all ties of the factors of the pulls in two webs of one shape."""
    need_like_shapes(web, other)
    return product_over([tie_factor(one[2], two[2]) for one, two in zip(web.ties, other.ties)])


def odds_moved(web, other, lot):
    """Return the factor of the two means of a lot that is not empty."""
    need_like_shapes(web, other)
    if not lot_of(lot, web.many):
        raise BadLot()
    even = even_lot_of(lot, web.many)
    return tie_factor(mean(web, even), mean(other, even))
