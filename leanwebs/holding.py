"""What holds and what is an identity for a shape, and webs at which a sum breaks."""

from leanwebs.errors import TooMany
from leanwebs.lots import joined, sayings, sign_at
from leanwebs.partings import glued_web, hanging_partings
from leanwebs.ratios import over_common, sign_of
from leanwebs.sums import signs_of
from leanwebs.worths import OneSum, PairSum, need_many, value_of, values_of

MOST_PAIRED = 5


def need_told(one, web):
    """Raise what keeps the sum from being decided for the shape of the web."""
    if isinstance(one, PairSum) and one.many > MOST_PAIRED:
        raise TooMany(one.many, MOST_PAIRED)
    need_many(one, web)


def values_at(one, parting):
    """Return the list of the values at the parting: one for each saying for a pair-sum, else just one."""
    return values_of(one, parting) if isinstance(one, PairSum) else [value_of(one, parting)]


def first_break(one, web):
    """Return the first hanging parting with a value below 0 and the index of the first such value, or None."""
    for parting in hanging_partings(web):
        for at, told in enumerate(values_at(one, parting)):
            if sign_of(told) < 0:
                return (parting, at)
    return None


def breaking(one, web):
    """Return the first hanging parting with a value below 0, for a pair-sum with the first such saying; or None."""
    need_told(one, web)
    found = first_break(one, web)
    if found is None or not isinstance(one, PairSum):
        return None if found is None else found[0]
    return (found[0], sayings(one.many)[found[1]])


def holds(one, web):
    """Return whether the sum holds for the shape."""
    return breaking(one, web) is None


def is_identity(one, web):
    """Return whether the sum is an identity for the shape."""
    need_told(one, web)
    return all([told == (0, 1) for parting in hanging_partings(web) for told in values_at(one, parting)])


def never_zero(one, web):
    """Return whether the value of a one-sum or two-sum is above 0 at some hanging parting."""
    need_told(one, web)
    return any([sign_of(told) > 0 for parting in hanging_partings(web) for told in values_at(one, parting)])


def alike_counts(web, parting):
    """Return for each saying, in order, the number of the ties within blocks whose ends say the same."""
    counts = [0 for _ in range(1 << web.many)]
    for u, v, (p, _) in glued_web(web, parting, (1, 2)).ties:
        if p != 0:
            counts = [count + (sign + 1) // 2 for count, sign in zip(counts, signs_of(joined((u,), (v,)), web.many))]
    return counts


def mean_counts(lot, counts, many):
    """Return the sum of the weights times s_A as a polynomial in the odds of the pull, A being the lot."""
    found = [0 for _ in range(max(counts) + 1)]
    for count, sign in zip(counts, signs_of(lot, many)):
        found[count] += sign
    return found


def near_polynomial(one, web, parting, said):
    """Return the worth at the near webs, times what is above 0, as a polynomial in the odds of the pull.

    It is a list of integers, the one of the highest power first. Said is what the second web is turned by.
    """
    counts = alike_counts(web, parting)
    found = [0 for _ in range(2 * max(counts) + 1)]
    tops, _ = over_common([told for _, told in one.rows])
    for (lot, _), top in zip(one.rows, tops):
        # A one-sum has one mean in each row; it is multiplied by that of the empty lot.
        other = () if isinstance(one, OneSum) else joined(one.lot, lot)
        signed = top * sign_at(said, lot)
        right = mean_counts(lot, counts, one.many)
        for i, left in enumerate(mean_counts(other, counts, one.many)):
            for j, count in enumerate(right):
                found[i + j] += signed * left * count
    return found[::-1]


def polynomial_at(row, power):
    """Return the value of the polynomial at the odds of the pull 1 - 1/2^power."""
    odds = (2 << power) - 1
    found = 0
    for entry in row:
        found = found * odds + entry
    return found


def first_below(rises, falls, low, high):
    """Return the least power from low to high at which rises is less than falls, or None.

    No entry of the two is below 0, so that both grow with the power, and whole ranges of powers are told at once.
    """
    if polynomial_at(rises, low) >= polynomial_at(falls, high):
        return None
    if low == high:
        return low
    middle = (low + high) // 2
    found = first_below(rises, falls, low, middle)
    return first_below(rises, falls, middle + 1, high) if found is None else found


def least_power(row):
    """Return the least k >= 1 at which the polynomial is below 0; its highest entry other than 0 is below 0."""
    high = 1
    while polynomial_at(row, high) >= 0:
        high = 2 * high
    return first_below([max(entry, 0) for entry in row], [max(-entry, 0) for entry in row], 1, high)


def breaking_web(one, web):
    """Return a near web, for a pair-sum two of them, with a worth below 0; None if the sum holds."""
    need_told(one, web)
    found = first_break(one, web)
    if found is None:
        return None
    parting, at = found
    said = sayings(one.many)[at if isinstance(one, PairSum) else 0]
    power = least_power(near_polynomial(one, web, parting, said))
    near = glued_web(web, parting, ((1 << power) - 1, 1 << power))
    if not isinstance(one, PairSum):
        return near
    return (near, near.turned([place for place, entry in enumerate(said) if entry == -1]))
