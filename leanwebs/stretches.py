"""Stretches of pulls, their corners, and the least and the greatest worth of the rows of a sum over them."""

from leanwebs.errors import BadRatio, BadStretch, TooMany
from leanwebs.given import with_pulls
from leanwebs.lots import even_lot_of, joined, subsets
from leanwebs.ratios import at_most, is_row, lowest, over_common, pull_of, ratio_of, sign_of, times
from leanwebs.sums import index_of_no, signed_sums, signs_of, weight_tops

MOST_MOVING = 9


def stretch_of(number, row):
    """Return the stretch of this number as a tuple (low, high); BadStretch if it is none."""
    if not is_row(row) or len(row) != 2:
        raise BadStretch(number)
    try:
        low = pull_of(row[0])
        high = pull_of(row[1])
    except BadRatio as e:
        raise BadStretch(number) from e
    if not at_most(low, high):
        raise BadStretch(number)
    return (low, high)


def lesser_size(low, high):
    """Return the pull of least size of the stretch."""
    if sign_of(low) * sign_of(high) <= 0:
        return (0, 1)
    return low if sign_of(low) > 0 else high


def greater_size(low, high):
    """Return the pull of greatest size of the stretch."""
    return high if at_most(times(-1, low), high) else low


def need_rows(stretches, web):
    """Raise BadStretch unless there is one stretch for each tie of the web."""
    if len(stretches.rows) != len(web.ties):
        raise BadStretch(-1)


class Stretches:
    """Stretches (low, high) of the pulls of a web, row k for tie k."""

    def __init__(self, rows):
        if not is_row(rows):
            raise BadStretch(-1)
        self.rows = tuple([stretch_of(number, row) for number, row in enumerate(rows)])

    def agrees(self, web):
        """Return whether each pull of the web lies in its stretch."""
        need_rows(self, web)
        told = [(low, t, high) for (low, high), (_, _, t) in zip(self.rows, web.ties)]
        return all([at_most(low, t) and at_most(t, high) for low, t, high in told])

    def lows(self, web):
        """Return the web of the shape with all pulls at low."""
        need_rows(self, web)
        return with_pulls(web, [low for low, _ in self.rows])

    def highs(self, web):
        """Return the web of the shape with all pulls at high."""
        need_rows(self, web)
        return with_pulls(web, [high for _, high in self.rows])

    def sizes_low(self, web):
        """Return the web of the shape with all pulls of least size."""
        need_rows(self, web)
        return with_pulls(web, [lesser_size(low, high) for low, high in self.rows])

    def sizes_high(self, web):
        """Return the web of the shape with all pulls of greatest size."""
        need_rows(self, web)
        return with_pulls(web, [greater_size(low, high) for low, high in self.rows])


def moving_ties(web, stretches):
    """Return the list of the moving ties, or raise what keeps their corners from being listed."""
    need_rows(stretches, web)
    moving = [number for number, (low, high) in enumerate(stretches.rows) if low != high]
    if len(moving) > MOST_MOVING:
        raise TooMany(len(moving), MOST_MOVING)
    return moving


def corners(web, stretches):
    """Yield all corners as tuples (bundle, web), in order."""
    for bundle in subsets(moving_ties(web, stretches)):
        pulls = [high if number in bundle else low for number, (low, high) in enumerate(stretches.rows)]
        yield (bundle, with_pulls(web, pulls))


def unlike_bits(web, moving):
    """Return for all sayings in order a number: its bit k tells whether the ends of moving tie k say unlike things."""
    bits = [0 for _ in range(1 << web.many)]
    for k, number in enumerate(moving):
        u, v = web.ends(number)
        signs = signs_of(joined((u,), (v,)), web.many)
        bits = [old + (1 << k if sign == -1 else 0) for old, sign in zip(bits, signs)]
    return bits


def sums_at_corners(row, stretches):
    """Return a list of sums of the row times weights; bit k of its index tells whether moving tie k is at its high.

    The bits of the index of the row are those of unlike_bits. Ties are taken one by one, so that the weights of all
    sayings are not needed anew at each corner.
    """
    sums = list(row)
    for k, ((p, q), (r, s)) in enumerate(stretches):
        bit = 1 << k
        sums = [(s + r) * sums[at - bit] + (s - r) * sums[at] if at & bit else
                (q + p) * sums[at] + (q - p) * sums[at + bit] for at in range(len(sums))]
    return sums


def corner_worths(web, stretches, rows):
    """Return the list of tuples (bundle, worth of the rows of a sum) of all corners, in order."""
    moving = moving_ties(web, stretches)
    told = [(even_lot_of(lot, web.many), ratio_of(ratio)) for lot, ratio in rows]
    tops, bottom = over_common([ratio for _, ratio in told])
    factors = [0 for _ in range(1 << web.many)]
    for (lot, _), top in zip(told, tops):
        factors[index_of_no(lot, web.many)] += top
    values = signed_sums(factors)
    whole = [0 for _ in range(1 << len(moving))]
    part = list(whole)
    # Only the ties that do not move have the same weight at all corners.
    weights = weight_tops(stretches.lows(web).without(moving))
    for bits, weight, value in zip(unlike_bits(web, moving), weights, values):
        whole[bits] += weight
        part[bits] += weight * value
    stretched = [stretches.rows[number] for number in moving]
    wholes = sums_at_corners(whole, stretched)
    parts = sums_at_corners(part, stretched)
    order = [(bundle, sum([1 << moving.index(number) for number in bundle])) for bundle in subsets(moving)]
    return [(bundle, lowest(parts[at], wholes[at] * bottom)) for bundle, at in order]


def ends(web, stretches, rows):
    """Return the least and the greatest worth of the rows over the corners, each with the first bundle that has it."""
    found = corner_worths(web, stretches, rows)
    first, least = found[0]
    last, greatest = found[0]
    for bundle, worth in found:
        if not at_most(least, worth):
            first, least = bundle, worth
        if not at_most(worth, greatest):
            last, greatest = bundle, worth
    return (least, first, greatest, last)


def holds_within(web, stretches, rows):
    """Return whether the worth of the rows is not below 0 at every agreeing web."""
    return sign_of(ends(web, stretches, rows)[0]) >= 0
