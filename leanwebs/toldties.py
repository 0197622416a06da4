"""Chances of what chosen ties do in inner bundles and in cluster bundles."""

from leanwebs.bundles import bundle_of, bundle_sum, ends_of, need_few_ties, parts_by, product_of
from leanwebs.errors import BadBundle, BadLot
from leanwebs.lots import even_lot_of, joined
from leanwebs.pieces import need_not_below
from leanwebs.ratios import minus, over, plus, product_over, times
from leanwebs.sums import mean, total
from leanwebs.webs import tie_number


def told_arguments(web, ties, inner, lot):
    """Return the chosen ties, the part of them that is had and the lot, all in order, or raise what is wrong."""
    need_few_ties(web)
    need_not_below(web)
    chosen = bundle_of(web, ties)
    had = bundle_of(web, inner)
    if not all([number in chosen for number in had]):
        raise BadBundle()
    even = even_lot_of(lot, web.many)
    if mean(web, even) == (0, 1):
        raise BadLot()
    return (chosen, had, even)


def told_inner(web, ties, inner, *, lot=()):
    """Return the chance that a bundle with odd ends lot has, of the chosen ties, exactly those of inner."""
    chosen, had, even = told_arguments(web, ties, inner, lot)
    wanted = joined(even, ends_of(web, had))
    # Both sums Z * <..> are 2^n times a bundle sum.
    return over(times(product_of(web, had), bundle_sum(web.without(chosen), wanted)), bundle_sum(web, even))


def told_clusters(web, ties, inner, *, lot=()):
    """Return the chance that a cluster bundle, the lot even in it, has, of the chosen ties, exactly those of inner."""
    chosen, had, even = told_arguments(web, ties, inner, lot)
    blocks = parts_by(web, had)
    rest = web.without(chosen).glued(blocks)
    odd = [at for at, block in enumerate(blocks) if len([place for place in block if place in even]) & 1]
    pulls = [(number, web.pull(number)) for number in chosen]
    told = product_over([times(2, pull) if number in had else minus(1, pull) for number, pull in pulls])
    return over(times(told, times(total(rest), mean(rest, odd))), times(total(web), mean(web, even)))


def tie_chances(web, number):
    """Return the chances of the tie: in the even bundle, in the cluster bundle, ends alike."""
    need_few_ties(web)
    need_not_below(web)
    t = web.pull(tie_number(number, len(web.ties)))
    u, v = web.ends(number)
    m = mean(web, joined((u,), (v,)))
    in_even = over(times(t, minus(m, t)), minus(1, times(t, t)))
    in_cluster = over(times(t, plus(1, m)), plus(1, t))
    return (in_even, in_cluster, over(plus(1, m), 2))
