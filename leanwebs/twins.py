"""Pulls of the twin, and sums of the contrary twins."""

from leanwebs.errors import BadRatio
from leanwebs.layings import twin_of
from leanwebs.ratios import lowest, over, plus, product_over, pull_of, sign_of
from leanwebs.sums import total


def pull_above(pull):
    """Return the ratio in lowest terms; BadRatio unless it is strictly between 0 and 1."""
    found = pull_of(pull)
    if sign_of(found) <= 0:
        raise BadRatio()
    return found


def twin_pull(pull):
    """Return the pull (1 - t)/(1 + t) of the twin."""
    return twin_of(pull_above(pull))


def two_sides(pull):
    """Return 2t/(1 + t^2) and (1 - t^2)/(1 + t^2) for a pull t."""
    p, q = pull_above(pull)
    under = q * q + p * p
    return (lowest(2 * p * q, under), lowest(q * q - p * p, under))


def twin_factor(laying):
    """Return what the sums of the contrary twins are multiplied by to give the sum of the web."""
    web = laying.web
    power = 1 << (len(web.ties) + 1)
    return over(product_over([plus(1, t) for _, _, t in web.ties] + [(1 << web.many, 1)]), power)


def contrary_total(laying, bundle):
    """Return the sum of the web of the twin made contrary on the bundle."""
    return total(laying.twin().web.contrary(bundle))
