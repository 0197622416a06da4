"""The excess of two lots, and its parts by halvings."""

from leanwebs.given import need_small
from leanwebs.halves import all_halves, is_odd_for
from leanwebs.lots import even_lot_of, joined
from leanwebs.pieces import need_not_below
from leanwebs.ratios import lowest, minus, over, product_over, times
from leanwebs.sums import bottom_of, mean, signs_of, total, weight_tops


def excess(web, lot, other):
    """Return the mean of the two lots joined less the product of their means."""
    need_not_below(web)
    one = even_lot_of(lot, web.many)
    two = even_lot_of(other, web.many)
    return minus(mean(web, joined(one, two)), times(mean(web, one), mean(web, two)))


def squares_sum(web, lot):
    """Return the sum over all bundles with the odd ends lot of the products of 2t inside and of 1 + t^2 outside.

    With 1 + t^2 + 2t*s_u*s_v = (1 + t*s_u*s_v)^2 it is the sum of squared weights times signs, over 2^n.
    """
    tops = weight_tops(web)
    bottom = bottom_of(web)
    found = sum([top * top * sign for top, sign in zip(tops, signs_of(lot, web.many))])
    return lowest(found, (bottom * bottom) << web.many)


def part_of(web, half, lot):
    """Return the part of the halving, lot being both lots joined, but for a factor that all parts have."""
    between = [number for number, (u, v, _) in enumerate(web.ties) if (u in half) != (v in half)]
    squares = [times(web.pull(number), web.pull(number)) for number in between]
    unlike = product_over([minus(1, square) for square in squares])
    return times(unlike, squares_sum(web.without(between), lot))


def excess_parts(web, lot, other):
    """Return the list of tuples (half, part) for the halvings that are odd for other and have a part above 0."""
    need_small(web)
    need_not_below(web)
    one = even_lot_of(lot, web.many)
    two = even_lot_of(other, web.many)
    # 2^(2 - n) / Z'^2 is 2^(n + 2) / Z^2.
    scale = over(1 << (web.many + 2), times(total(web), total(web)))
    halves = [half for half in all_halves(web.many) if is_odd_for(half, two)]
    parts = [(half, times(scale, part_of(web, half, joined(one, two)))) for half in halves]
    return [(half, part) for half, part in parts if part != (0, 1)]
