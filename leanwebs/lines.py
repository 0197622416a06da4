"""The polynomial f of a spread, along lines, and lines that break the spread."""

from math import isqrt

from leanwebs.errors import BadRates, BadRatio, BadTable
from leanwebs.given import means_in, two_places
from leanwebs.lots import joined
from leanwebs.ratios import (is_ratio, is_row, lowest, minus, over, over_common, plus, product_over, ratio_of, sign_of,
                             times)
from leanwebs.rounds import is_round
from leanwebs.spreads import pairs_of
from leanwebs.sums import index_of_no

ZERO = (0, 1)
ONE = (1, 1)


def rates_of(numbers, many):
    """Return so many ratios in lowest terms as a list; BadRates if numbers are not such a row."""
    if not is_row(numbers) or len(numbers) != many or not all([is_ratio(number) for number in numbers]):
        raise BadRates()
    return [ratio_of(number) for number in numbers]


def one_place_less(row, x, d, bottom):
    """Return the polynomials that are left when the last place is given the number x + h*d, over bottom."""
    found = []
    for at in range(0, len(row), 2):
        rest, having = row[at], row[at + 1]
        kept = [bottom * one + x * two for one, two in zip(rest, having)]
        moved = [d * two for two in having]
        found.append([one + two for one, two in zip(kept + [0], [0] + moved)])
    return found


def coefficients(spread, xs, ds):
    """Return the coefficients of 1, h, h^2, .. in f(x + h*d) as a tuple of ratios.

    The places are given their numbers one by one, the last one first; its bit is the last one of the index of a lot.
    """
    numbers, bottom = over_common(xs + ds)
    told = means_in(spread)
    tops, whole = over_common(list(told.values()))
    row = [[0] for _ in range(1 << spread.many)]
    for lot, top in zip(told, tops):
        row[index_of_no(lot, spread.many)] = [-top if len(lot) & 2 else top]
    for place in range(spread.many - 1, -1, -1):
        row = one_place_less(row, numbers[place], numbers[spread.many + place], bottom)
        whole = whole * bottom
    return tuple([lowest(top, whole) for top in row[0]])


def f_at(spread, x):
    """Return f(x)."""
    xs = rates_of(x, spread.many)
    return coefficients(spread, xs, [ZERO for _ in xs])[0]


def line_numbers(spread, x, u, v, k):
    """Return the tuple (a, b, c) of the numbers of a line."""
    xs = rates_of(x, spread.many)
    one, two = two_places(u, v, spread.many)
    factor = ratio_of(k)
    if sign_of(factor) <= 0:
        raise BadRatio()
    steps = {one: ONE, two: factor}
    found = coefficients(spread, xs, [steps.get(place, ZERO) for place in range(spread.many)])
    return found[:3]


def breaks(numbers):
    """Return whether a line with the numbers (a, b, c) breaks a spread."""
    if not is_row(numbers) or len(numbers) != 3 or not all([is_ratio(number) for number in numbers]):
        raise BadTable(-1)
    a, b, c = [ratio_of(number) for number in numbers]
    return sign_of(minus(times(b, b), product_over([(4, 1), a, c]))) < 0


def along_line(spread, x, d):
    """Return the coefficients of 1, h, .., h^n in f(x + h*d) as a tuple of ratios."""
    xs = rates_of(x, spread.many)
    ds = rates_of(d, spread.many)
    if not all([sign_of(number) >= 0 for number in ds]):
        raise BadRates()
    return coefficients(spread, xs, ds)


def fourth_root(above, under, step):
    """Return a ratio above 0 that comes near to the fourth root of above/under as step grows.

    If just one of the two is 0, the ratio falls to 0 or grows without end; if both are 0, any ratio will do.
    """
    if sign_of(under) == 0:
        return ONE if sign_of(above) == 0 else (1 << step, 1)
    p, q = over(above, under)
    return lowest(max(1, isqrt(isqrt((p << (4 * step)) // q))), 1 << step)


def means_of_pairs(told, four):
    """Return the means of the pairs uv, uw, uz, vw, vz and wz of four places u, v, w, z, told being means by lot."""
    return [told[joined((four[i],), (four[j],))] for i, j in pairs_of(4)]


def point_at(told, four, step):
    """Return the numbers of the last two of four places for which the line is to break the spread.

    Let the line be along the first two. It breaks if D = uv + uw*vw*a^2 + uz*vz*b^2 + k*a*b + wz*M*a^2*b^2 is below 0
    for the numbers a and b and k = uw*vz + uz*vw - uv*wz - M. With M below 0 a large a = -b will do. Else D/|a*b| is
    least at certain fourth roots of |a*b| squared and |a/b| squared; it is below 0 there if the four do not close.
    """
    whole = told[(0, 1, 2, 3)]
    if sign_of(whole) < 0:
        return ((1 << step, 1), (-1 << step, 1))
    uv, uw, uz, vw, vz, wz = means_of_pairs(told, four)
    k = minus(plus(times(uw, vz), times(uz, vw)), plus(times(uv, wz), whole))
    size = fourth_root(uv, times(wz, whole), step)
    slant = fourth_root(times(uz, vz), times(uw, vw), step)
    return (times(size, slant), times(-sign_of(k), over(size, slant)))


def numbers_at(told, four, a, b):
    """Return numbers x, with a and b at the last two of four places, at which the line breaks; None if it does not.

    In the numbers of the first two places, f is alpha + beta*x_u + gamma*x_v + delta*x_u*x_v.
    """
    uv, uw, uz, vw, vz, wz = means_of_pairs(told, four)
    alpha = minus(1, product_over([wz, a, b]))
    beta = plus(times(uw, a), times(uz, b))
    gamma = plus(times(vw, a), times(vz, b))
    delta = minus(product_over([told[(0, 1, 2, 3)], a, b]), uv)
    if sign_of(delta) == 0 or sign_of(minus(times(beta, gamma), times(alpha, delta))) >= 0:
        return None
    numbers = {four[0]: over(gamma, delta), four[1]: over(beta, delta), four[2]: a, four[3]: b}
    return tuple([numbers[place] for place in range(4)])


def broken_pairs(told):
    """Return four places: the line is to go along the first two of them."""
    above = [pair for pair in pairs_of(4) if sign_of(told[pair]) > 0]
    pair = above[0] if above else (0, 1)
    rest = tuple([place for place in range(4) if place not in pair])
    return rest + pair if sign_of(told[(0, 1, 2, 3)]) < 0 else pair + rest


def breaking_line(spread):
    """Return a line (x, u, v, k) that breaks a spread of at most four places; None if the spread is round."""
    if is_round(spread):
        return None
    told = means_in(spread)
    for u, v in pairs_of(spread.many):
        if sign_of(told[(u, v)]) < 0:
            return (tuple([ZERO for _ in range(spread.many)]), u, v, ONE)
    four = broken_pairs(told)
    step = 0
    while True:
        a, b = point_at(told, four, step)
        found = numbers_at(told, four, a, b)
        if found is not None:
            return (found, four[0], four[1], ONE)
        step = step + 1 + step // 8
