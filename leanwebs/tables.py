"""Tables of three and of four places: which ones come, and the bounds of the mean of all four."""

from leanwebs.cutstold import entries_of
from leanwebs.errors import BadRatio, BadTable
from leanwebs.fours import Four
from leanwebs.lots import sayings
from leanwebs.ratios import at_most, minus, ratio_of, sign_of, sum_of, times
from leanwebs.spreads import pairs_of, spread_of_means
from leanwebs.stars import sums_of_three

THREES = ((0, 1, 2), (0, 1, 3), (0, 2, 3), (1, 2, 3))
FOUR = (0, 1, 2, 3)


def triangle_sums(m12, m13, m23):
    """Return the four triangle sums of three ratios as a tuple."""
    return tuple(sums_of_three(ratio_of(m12), ratio_of(m13), ratio_of(m23)))


def comes_three(m12, m13, m23):
    """Return whether the three ratios come."""
    return all([sign_of(told) > 0 for told in triangle_sums(m12, m13, m23)])


def comes_plainly(m12, m13, m23):
    """Return whether the three ratios come and each of them is at least the product of the two others."""
    if not comes_three(m12, m13, m23):
        return False
    products = ((m12, times(m13, m23)), (m13, times(m12, m23)), (m23, times(m12, m13)))
    return all([at_most(product, one) for one, product in products])


def table_four(table):
    """Return the table of four places as a dict of its ratios by the pairs u < v, or raise what is wrong with it."""
    pairs = pairs_of(4)
    return {pair: told for pair, told in zip(pairs, entries_of(table, len(pairs)))}


def broken_of(numbers):
    """Return the first three places that do not come and the number of a triangle sum that is not above 0, or None."""
    for u, v, w in THREES:
        for at, told in enumerate(triangle_sums(numbers[(u, v)], numbers[(u, w)], numbers[(v, w)])):
            if sign_of(told) <= 0:
                return ((u, v, w), at)
    return None


def broken_three(table):
    """Return the first three places of the table that do not come and the least number of such a sum, or None."""
    return broken_of(table_four(table))


def signed_sum(numbers, said):
    """Return 1 plus the sum of the entries of the table times what both places say."""
    return sum_of([(1, 1)] + [times(said[u] * said[v], told) for (u, v), told in numbers.items()])


def greatest(ratios):
    """Return the greatest of some ratios."""
    found = ratios[0]
    for one in ratios:
        if at_most(found, one):
            found = one
    return found


def limits_of(numbers):
    """Return the two limits of the mean of all four places; BadTable if the table does not come."""
    if broken_of(numbers) is not None:
        raise BadTable(-1)
    sums = [(said.count(-1) & 1, signed_sum(numbers, said)) for said in sayings(4)]
    low = greatest([times(-1, told) for odd, told in sums if not odd])
    high = greatest([times(-1, told) for odd, told in sums if odd])
    return (low, times(-1, high))


def between(table):
    """Return the tuple of the two limits of the mean of all four places in the spreads with this table."""
    return limits_of(table_four(table))


def spread_with(table, whole):
    """Return the spread of four places with this table and this mean of all four."""
    numbers = table_four(table)
    low, high = limits_of(numbers)
    if at_most(whole, low) or at_most(high, whole):
        raise BadRatio()
    return spread_of_means(4, [(pair, told) for pair, told in numbers.items()] + [(FOUR, whole)])


def bounds(table):
    """Return the lower and the upper bound of the mean of all four places of a table."""
    numbers = table_four(table)
    four = Four(list(numbers.values()) + [0])
    p, q, r = four.products
    whole = sum_of([p, q, r])
    low = greatest([minus(whole, times(2, one)) for one in four.products])
    high = minus(whole, times(2, greatest([four.by_way(k) for k in range(4)])))
    return (low, high)
