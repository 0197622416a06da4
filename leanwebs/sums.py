"""Weights, sums, chances and means."""

from leanwebs.errors import BadPlace
from leanwebs.lots import even_lots, is_place, joined, lot_of, saying_of, sayings
from leanwebs.ratios import lowest, over


def signs_of(lot, many):
    """Return the list of s_A for all sayings s in order, A being the lot."""
    found = [1]
    for place in range(many):
        turn = -1 if place in lot else 1
        found = [sign for old in found for sign in (old, turn * old)]
    return found


def weight_tops(web):
    """Return the weights of all sayings in order, each multiplied by the denominators of all pulls."""
    tops = [1 for _ in range(1 << web.many)]
    for u, v, (p, q) in web.ties:
        signs = signs_of(joined((u,), (v,)), web.many)
        tops = [top * (q + p * sign) for top, sign in zip(tops, signs)]
    return tops


def bottom_of(web):
    """Return the product of the denominators of all pulls."""
    bottom = 1
    for _, _, (_, q) in web.ties:
        bottom = bottom * q
    return bottom


def signed_sums(row):
    """Return a list: at the index of s, the sum of the row times s_A, A the lot of the places where s says no.

    The row and the list are in the order of sayings. Places are taken one by one, so that a row of 2^n numbers
    takes n * 2^n steps instead of 4^n.
    """
    sums = list(row)
    step = 1
    while step < len(sums):
        sums = [sums[k - step] - sums[k] if k & step else sums[k] + sums[k + step] for k in range(len(sums))]
        step = 2 * step
    return sums


def index_of_no(lot, many):
    """Return the index of the saying that says no at the places of the lot alone."""
    return sum([1 << (many - 1 - place) for place in lot])


def weight(web, saying):
    """Return the weight of the saying."""
    said = saying_of(saying, web.many)
    top = 1
    for u, v, (p, q) in web.ties:
        top = top * (q + p * said[u] * said[v])
    return lowest(top, bottom_of(web))


def total(web):
    """Return the sum of the weights of all sayings."""
    return lowest(sum(weight_tops(web)), bottom_of(web))


def chance(web, saying):
    """Return the chance of the saying."""
    return over(weight(web, saying), total(web))


def mean(web, lot, *, floor=None):
    """Return the mean of the lot; a place given as floor counts as yes."""
    places = lot_of(lot, web.many)
    if floor is not None:
        if not is_place(floor, web.many):
            raise BadPlace()
        if len(places) & 1:
            places = joined(places, (floor,))
    tops = weight_tops(web)
    signs = signs_of(places, web.many)
    return lowest(sum([top * sign for top, sign in zip(tops, signs)]), sum(tops))


def means(web):
    """Return the list of all even lots in order, each as a tuple (lot, mean)."""
    sums = signed_sums(weight_tops(web))
    return [(lot, lowest(sums[index_of_no(lot, web.many)], sums[0])) for lot in even_lots(web.many)]


def count_yes(web):
    """Return the list of the chances that exactly 0, 1, .. places say yes."""
    tops = weight_tops(web)
    found = [0 for _ in range(web.many + 1)]
    for said, top in zip(sayings(web.many), tops):
        found[said.count(1)] += top
    bottom = sum(tops)
    return [lowest(top, bottom) for top in found]
