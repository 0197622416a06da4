"""Sums of the whole and the three products of four places: all that hold are told by four numbers."""

from leanwebs.ratios import plus, ratio_of, sign_of, sum_of
from leanwebs.webs import Web
from leanwebs.worths import TwoSum

HALF = (1, 2)


def least_breaking(m, p, q, r):
    """Return a web, all pulls 1/2, at which m*M + p*P + q*Q + r*R is below 0; None if there is none."""
    whole, one, two, three = ratio_of(m), ratio_of(p), ratio_of(q), ratio_of(r)
    for number, pairs in ((one, ((0, 1), (2, 3))), (two, ((0, 2), (1, 3))), (three, ((0, 3), (1, 2)))):
        if sign_of(plus(whole, number)) < 0:
            return Web(4, [(u, v, HALF) for u, v in pairs])
    if sign_of(sum_of([whole, one, two, three])) < 0:
        return Web(5, [(4, place, HALF) for place in range(4)])
    return None


def four_holds(m, p, q, r):
    """Return whether m*M + p*P + q*Q + r*R is not below 0 at all webs without pulls below 0."""
    return least_breaking(m, p, q, r) is None


def four_sum(m, p, q, r):
    """Return the two-sum of four places with the worth m*M + p*P + q*Q + r*R."""
    return TwoSum(4, (0, 1, 2, 3), [((), m), ((0, 1), p), ((0, 2), q), ((0, 3), r)])
